/-
  What the reader's element does.
  What the reader's element does.
-/
import Derived.Test.YtmhpakhnclkenaaGreatDoorParQ
namespace Go.Proofs.YtmhpakhnclkenaaGreatDoor
open Go.RowKit Go.Shelf

attribute [local go_sem] Oper.semAt_some

abbrev zeroM : Array Value := #[.string ⟨#[]⟩, .slice none 0 0, .bool false, .bool false, .int .i64 0, .int .i64 0, .int .i64 0, .string ⟨#[]⟩, .string ⟨#[]⟩, .string ⟨#[]⟩, .slice none 0 0]
/-- These texts lie at a, in blocks from m on, below k. -/
def TxM (m k : Nat) (W : World) (a : Option Addr) (ts : List Txt) : Prop :=
  ts = [] ∨ ∃ b off, a = some ⟨b, off, none⟩ ∧ m ≤ b ∧ b < k ∧ ∀ (j : Nat) t, ts[j]? = some t → W.cell? ⟨b, off + j, none⟩ = some (.string t.1)
theorem TxM.keep {m k : Nat} {A W : World} (hw : ∀ b, m ≤ b → b < k → W.heap[b]? = A.heap[b]?) {a : Option Addr} {ts : List Txt} (h : TxM m k A a ts) : TxM m k W a ts := by
  rcases h with h | ⟨b, off, e, hm, hk, hc⟩
  · exact .inl h
  · exact .inr ⟨b, off, e, hm, hk, fun j t ht => (World.cell?_of_block (w := A) (a := ⟨b, _, none⟩) (hw b hm hk)).trans (hc j t ht)⟩
theorem TxM.mono {m n k l : Nat} (hn : n ≤ m) (hk : k ≤ l) {W : World} {a : Option Addr} {ts : List Txt} (h : TxM m k W a ts) : TxM n l W a ts := by
  rcases h with h | ⟨b, off, e, hm, hb, hc⟩
  · exact .inl h
  · exact .inr ⟨b, off, e, Nat.le_trans hn hm, Nat.lt_of_lt_of_le hb hk, hc⟩
theorem TxM.sm {m k : Nat} {A W : World} (hs : Sm A.heap.size A W) (hk : k ≤ A.heap.size) {a : Option Addr} {ts : List Txt} (h : TxM m k A a ts) : TxM m k W a ts := by
  rcases h with h | ⟨b, off, e, hm, hb, hc⟩
  · exact .inl h
  · exact .inr ⟨b, off, e, hm, hb, fun j t ht => hs.cell (by omega) (hc j t ht)⟩
theorem txm_own {W : World} {base : Nat} {a : Option Addr} {c : Nat} {ts : List Txt} (h : W.ownsRow base 9 1 (.slice a ts.length c) ts.length (ts.map fun t => .string t.1)) : TxM base W.heap.size W a ts := by
  rcases h.2 with ⟨e, h0⟩ | ⟨g, cap', cur, e, hb, hg, hr⟩
  · refine .inl (List.eq_nil_of_length_eq_zero ?_)
    simp only [Value.slice.injEq] at e
    exact e.2.1
  · simp only [Value.slice.injEq] at e
    obtain ⟨rfl, -, rfl⟩ := e
    refine .inr ⟨g, 0, rfl, hb, (Array.getElem?_eq_some_iff.1 hg).1, fun j t ht => ?_⟩
    have hj := (List.getElem?_eq_some_iff.1 ht).1
    rw [Nat.zero_add, h.cellAt j (by omega), List.getElem?_map, ht]
    rfl
/-- This value is that element, its memory new from block m on. -/
def ElemAt (m : Nat) (W : World) (v : Value) (e : Em) : Prop := ∃ p : Pl, v = e.v p ∧ TxM m W.heap.size W p.ta e.ts ∧ LiesM m W.heap.size W p.ka e.t.kids ∧ e.ts.length ≤ p.tc

/-- What stands throughout: the reader, its box, the result's box, the element's box. -/
structure EFr (n B : Nat) (W V : World) (s : Ps) (t : TypeId) (zs cs : Array Value) : Prop where
  rs : RS n B V s
  kb : Kb B W V
  bx : Box V W.heap.size 56 #[.pointer (some ⟨B, 0, none⟩)]
  zx : Box V (W.heap.size + 1) t zs
  cx : Box V (W.heap.size + 2) t cs
section
variable {n B : Nat} {W V U : World} {s s' : Ps} {t : TypeId} {zs cs : Array Value}
theorem EFr.up (h : EFr n B W V s t zs cs) (hB : B < W.heap.size) (k : Kb B V U) (hr : RS n B U s') : EFr n B W U s' t zs cs :=
  ⟨hr, h.kb.trans k, k.box h.bx (by omega), k.box h.zx (by omega), k.box h.cx (by omega)⟩
theorem EFr.set (h : EFr n B W V s t zs cs) (hn : n ≤ W.heap.size) (i : Nat) (v : Value) : EFr n B W (V.setCell ⟨W.heap.size + 2, i, none⟩ v) s t zs (cs.setIfInBounds i v) :=
  ⟨h.rs.put (by show n ≤ W.heap.size + 2; omega) v, h.kb.put (by show W.heap.size ≤ W.heap.size + 2; omega) v, h.bx.other _ _ (by show W.heap.size + 2 ≠ _; omega), h.zx.other _ _ (by show W.heap.size + 2 ≠ _; omega), h.cx.set i v⟩
theorem EFr.grow (h : EFr n B W V s t zs cs) (hn : n ≤ W.heap.size) {row : Option Nat} (hg : V.grownBy U row) (hr : ∀ k, row = some k → W.heap.size + 3 ≤ k) : EFr n B W U s t zs cs :=
  ⟨h.rs.grown hg fun k e => by have := hr k e; omega, h.kb.grown hg fun k e => by have := hr k e; omega,
    (hg.block _ h.bx.lt fun e => by have := hr _ e.symm; omega).trans h.bx, (hg.block _ h.zx.lt fun e => by have := hr _ e.symm; omega).trans h.zx, (hg.block _ h.cx.lt fun e => by have := hr _ e.symm; omega).trans h.cx⟩
theorem EFr.own (h : EFr n B W V s t zs cs) {row : Option Nat} (hg : V.grownBy U row) (hr : ∀ r, row = some r → W.heap.size ≤ r ∧ ∃ o : Obj, V.heap[r]? = some o ∧ okN o) : EFr n B W U s t zs cs := by
  have hs := sm_grown hg fun r e => (hr r e).2
  exact ⟨h.rs.sm hs hg.size, h.kb.grown hg fun k e => (hr k e).1, h.bx.sm hs, h.zx.sm hs, h.cx.sm hs⟩
end

/-- Ahead of a round: the element's types so far. -/
def TyJ (n B : Nat) (W : World) (D1 : Nat) (c0 c3 : Value) (t : ByteArray) (s : Ps) (ts : List Txt) (V : World) : Prop :=
  ∃ a c, EFr n B W V s 55 zeroM #[c0, .slice a ts.length c, .bool false, c3, .int .i64 0, .int .i64 0, .int .i64 0, .string ⟨#[]⟩, .string ⟨#[]⟩, .string ⟨#[]⟩, .slice none 0 0] ∧
    V.ownsRow (D1 + 2) 9 1 (.slice a ts.length c) ts.length (ts.map fun t => .string t.1) ∧ Box V D1 56 #[.pointer (some ⟨B, 0, none⟩)] ∧ Box V (D1 + 1) 9 #[.string t]
theorem TyJ.own {n B : Nat} {W : World} {D1 : Nat} {c0 c3 : Value} {t : ByteArray} {s : Ps} {ts : List Txt} {m : Nat} (hm : W.heap.size ≤ m) : OwnP okN m (fun (_ : Unit) => TyJ n B W D1 c0 c3 t s ts) := fun _ V U row h hg hr => by
  obtain ⟨a, c, h1, h2, h3, h4⟩ := h
  have hs := sm_grown hg fun r e => (hr r e).2
  exact ⟨a, c, h1.own hg fun r e => ⟨Nat.le_trans hm (hr r e).1, (hr r e).2⟩, own_sm hs h2, h3.sm hs, h4.sm hs⟩
theorem TyJ.up {n B : Nat} {W V U : World} {D1 : Nat} {c0 c3 : Value} {t : ByteArray} {s s' : Ps} {ts : List Txt} (h : TyJ n B W D1 c0 c3 t s ts V) (hB : B < W.heap.size) (hD : W.heap.size ≤ D1) (k : Kb B V U) (hr : RS n B U s') : TyJ n B W D1 c0 c3 t s' ts U := by
  obtain ⟨a, c, h1, h2, h3, h4⟩ := h
  exact ⟨a, c, h1.up hB k hr, k.own (by omega) h2, k.box h3 (by omega), k.box h4 (by omega)⟩
theorem sfs (W : World) : W.heap.size + 1 + 1 = W.heap.size + 2 := rfl

/-! ### Blocks that are no cells -/
theorem keeps_kb {B m : Nat} {A C : World} {t : TypeId} {cs : Array Value} (k : Kb B A C) (hb : Box A B t cs) : KeepsFrom m A C :=
  ⟨k.size, fun g o _ hg ho => (k.block g (Array.getElem?_eq_some_iff.1 hg).1 fun e => by
    subst e; rw [show A.heap[g]? = _ from hb] at hg; cases hg; cases ho).trans hg⟩
theorem keeps_bel {m : Nat} {A C : World} (k : Below A.heap.size A C) : KeepsFrom m A C :=
  ⟨k.size, fun g _ _ hg _ => (k.block g (Array.getElem?_eq_some_iff.1 hg).1).trans hg⟩
theorem keeps_own {m base : Nat} {A C : World} {e : TypeId} {size : Nat} {v : Value} {n : Nat} {xs : List Value} (ho : A.ownsRow base e size v n xs) (hg : A.grownBy C v.ownBlock) : KeepsFrom m A C :=
  ⟨hg.size, fun g o _ hgo hc => (hg.block g (Array.getElem?_eq_some_iff.1 hgo).1 fun e => by
    rcases ho.2 with ⟨rfl, _⟩ | ⟨g', cap, cur, rfl, hb, hh, hr⟩
    · cases e
    · cases e; rw [hgo] at hh; cases hh; cases hc).trans hgo⟩
theorem keeps_set {m D : Nat} {A : World} {t : TypeId} {cs : Array Value} (hb : Box A D t cs) (i : Nat) (v : Value) : KeepsFrom m A (A.setCell ⟨D, i, none⟩ v) :=
  ⟨by simp, fun g o _ hg ho => (setCell_block A ⟨D, i, none⟩ v (fun e => by
    have e' : D = g := e
    subst e'; rw [show A.heap[D]? = _ from hb] at hg; cases hg; cases ho)).trans hg⟩

/-! ### A block Z from n on that is turned -/
theorem RS.kz {n B Z : Nat} {A C : World} {s : Ps} (h : RS n B A s) (k : Kb Z A C) (hZ : n ≤ Z) : RS n B C s := by
  obtain ⟨hn, hB, a, cap, h1, h2, hx, hw⟩ := h
  refine ⟨Nat.le_trans hn k.size, hB, a, cap, h1, h2, k.box hx (by omega), ?_⟩
  rcases hw with hw | ⟨g, off, e, hg, hl, hc⟩
  · exact .inl hw
  · exact .inr ⟨g, off, e, hg, hl, fun j w hj i u hu => (k.cell (p := ⟨g, _, none⟩) (Nat.lt_of_lt_of_le hl hn) (by show g ≠ Z; omega)).trans (hc j w hj i u hu)⟩
theorem Kb.tz {B Z : Nat} {W A C : World} (h : Kb B W A) (k : Kb Z A C) (hZ : W.heap.size ≤ Z) : Kb B W C :=
  ⟨k.os.trans h.os, k.tape.trans h.tape, k.output.trans h.output, Nat.le_trans h.size k.size, fun g hg hn => (k.block g (Nat.lt_of_lt_of_le hg h.size) (by omega)).trans (h.block g hg hn)⟩
theorem Box.put11 {W : World} {D : Nat} {t : TypeId} {c0 c1 c2 c3 c4 c5 c6 c7 c8 c9 c10 : Value} (h : Box W D t #[c0, c1, c2, c3, c4, c5, c6, c7, c8, c9, c10]) (d0 d1 d2 d3 d4 d5 d6 d7 d8 d9 d10 : Value) :
    Box (((((((((((W.setCell ⟨D, 0, none⟩ d0).setCell ⟨D, 1, none⟩ d1).setCell ⟨D, 2, none⟩ d2).setCell ⟨D, 3, none⟩ d3).setCell ⟨D, 4, none⟩ d4).setCell ⟨D, 5, none⟩ d5).setCell ⟨D, 6, none⟩ d6).setCell ⟨D, 7, none⟩ d7).setCell ⟨D, 8, none⟩ d8).setCell ⟨D, 9, none⟩ d9).setCell ⟨D, 10, none⟩ d10) D t #[d0, d1, d2, d3, d4, d5, d6, d7, d8, d9, d10] := by
  have h : Box (W.setCell ⟨D, 0, none⟩ d0) D t #[d0, c1, c2, c3, c4, c5, c6, c7, c8, c9, c10] := h.set 0 d0
  have h : Box ((W.setCell ⟨D, 0, none⟩ d0).setCell ⟨D, 1, none⟩ d1) D t #[d0, d1, c2, c3, c4, c5, c6, c7, c8, c9, c10] := h.set 1 d1
  have h : Box (((W.setCell ⟨D, 0, none⟩ d0).setCell ⟨D, 1, none⟩ d1).setCell ⟨D, 2, none⟩ d2) D t #[d0, d1, d2, c3, c4, c5, c6, c7, c8, c9, c10] := h.set 2 d2
  have h : Box ((((W.setCell ⟨D, 0, none⟩ d0).setCell ⟨D, 1, none⟩ d1).setCell ⟨D, 2, none⟩ d2).setCell ⟨D, 3, none⟩ d3) D t #[d0, d1, d2, d3, c4, c5, c6, c7, c8, c9, c10] := h.set 3 d3
  have h : Box (((((W.setCell ⟨D, 0, none⟩ d0).setCell ⟨D, 1, none⟩ d1).setCell ⟨D, 2, none⟩ d2).setCell ⟨D, 3, none⟩ d3).setCell ⟨D, 4, none⟩ d4) D t #[d0, d1, d2, d3, d4, c5, c6, c7, c8, c9, c10] := h.set 4 d4
  have h : Box ((((((W.setCell ⟨D, 0, none⟩ d0).setCell ⟨D, 1, none⟩ d1).setCell ⟨D, 2, none⟩ d2).setCell ⟨D, 3, none⟩ d3).setCell ⟨D, 4, none⟩ d4).setCell ⟨D, 5, none⟩ d5) D t #[d0, d1, d2, d3, d4, d5, c6, c7, c8, c9, c10] := h.set 5 d5
  have h : Box (((((((W.setCell ⟨D, 0, none⟩ d0).setCell ⟨D, 1, none⟩ d1).setCell ⟨D, 2, none⟩ d2).setCell ⟨D, 3, none⟩ d3).setCell ⟨D, 4, none⟩ d4).setCell ⟨D, 5, none⟩ d5).setCell ⟨D, 6, none⟩ d6) D t #[d0, d1, d2, d3, d4, d5, d6, c7, c8, c9, c10] := h.set 6 d6
  have h : Box ((((((((W.setCell ⟨D, 0, none⟩ d0).setCell ⟨D, 1, none⟩ d1).setCell ⟨D, 2, none⟩ d2).setCell ⟨D, 3, none⟩ d3).setCell ⟨D, 4, none⟩ d4).setCell ⟨D, 5, none⟩ d5).setCell ⟨D, 6, none⟩ d6).setCell ⟨D, 7, none⟩ d7) D t #[d0, d1, d2, d3, d4, d5, d6, d7, c8, c9, c10] := h.set 7 d7
  have h : Box (((((((((W.setCell ⟨D, 0, none⟩ d0).setCell ⟨D, 1, none⟩ d1).setCell ⟨D, 2, none⟩ d2).setCell ⟨D, 3, none⟩ d3).setCell ⟨D, 4, none⟩ d4).setCell ⟨D, 5, none⟩ d5).setCell ⟨D, 6, none⟩ d6).setCell ⟨D, 7, none⟩ d7).setCell ⟨D, 8, none⟩ d8) D t #[d0, d1, d2, d3, d4, d5, d6, d7, d8, c9, c10] := h.set 8 d8
  have h : Box ((((((((((W.setCell ⟨D, 0, none⟩ d0).setCell ⟨D, 1, none⟩ d1).setCell ⟨D, 2, none⟩ d2).setCell ⟨D, 3, none⟩ d3).setCell ⟨D, 4, none⟩ d4).setCell ⟨D, 5, none⟩ d5).setCell ⟨D, 6, none⟩ d6).setCell ⟨D, 7, none⟩ d7).setCell ⟨D, 8, none⟩ d8).setCell ⟨D, 9, none⟩ d9) D t #[d0, d1, d2, d3, d4, d5, d6, d7, d8, d9, c10] := h.set 9 d9
  have h : Box (((((((((((W.setCell ⟨D, 0, none⟩ d0).setCell ⟨D, 1, none⟩ d1).setCell ⟨D, 2, none⟩ d2).setCell ⟨D, 3, none⟩ d3).setCell ⟨D, 4, none⟩ d4).setCell ⟨D, 5, none⟩ d5).setCell ⟨D, 6, none⟩ d6).setCell ⟨D, 7, none⟩ d7).setCell ⟨D, 8, none⟩ d8).setCell ⟨D, 9, none⟩ d9).setCell ⟨D, 10, none⟩ d10) D t #[d0, d1, d2, d3, d4, d5, d6, d7, d8, d9, d10] := h.set 10 d10
  exact h
theorem kz11 (W : World) (D : Nat) (d0 d1 d2 d3 d4 d5 d6 d7 d8 d9 d10 : Value) : Kb D W (((((((((((W.setCell ⟨D, 0, none⟩ d0).setCell ⟨D, 1, none⟩ d1).setCell ⟨D, 2, none⟩ d2).setCell ⟨D, 3, none⟩ d3).setCell ⟨D, 4, none⟩ d4).setCell ⟨D, 5, none⟩ d5).setCell ⟨D, 6, none⟩ d6).setCell ⟨D, 7, none⟩ d7).setCell ⟨D, 8, none⟩ d8).setCell ⟨D, 9, none⟩ d9).setCell ⟨D, 10, none⟩ d10) := ((((((((((((Kb.refl D W).set 0 d0).set 1 d1).set 2 d2).set 3 d3).set 4 d4).set 5 d5).set 6 d6).set 7 d7).set 8 d8).set 9 d9).set 10 d10)
theorem Box.put47 {W : World} {D : Nat} {t : TypeId} {c0 c1 c2 c3 c4 c5 c6 c7 c8 c9 c10 : Value} (h : Box W D t #[c0, c1, c2, c3, c4, c5, c6, c7, c8, c9, c10]) (d4 d5 d6 d7 d8 d9 d10 : Value) :
    Box (((((((W.setCell ⟨D, 4, none⟩ d4).setCell ⟨D, 5, none⟩ d5).setCell ⟨D, 6, none⟩ d6).setCell ⟨D, 7, none⟩ d7).setCell ⟨D, 8, none⟩ d8).setCell ⟨D, 9, none⟩ d9).setCell ⟨D, 10, none⟩ d10) D t #[c0, c1, c2, c3, d4, d5, d6, d7, d8, d9, d10] := by
  have h : Box (W.setCell ⟨D, 4, none⟩ d4) D t #[c0, c1, c2, c3, d4, c5, c6, c7, c8, c9, c10] := h.set 4 d4
  have h : Box ((W.setCell ⟨D, 4, none⟩ d4).setCell ⟨D, 5, none⟩ d5) D t #[c0, c1, c2, c3, d4, d5, c6, c7, c8, c9, c10] := h.set 5 d5
  have h : Box (((W.setCell ⟨D, 4, none⟩ d4).setCell ⟨D, 5, none⟩ d5).setCell ⟨D, 6, none⟩ d6) D t #[c0, c1, c2, c3, d4, d5, d6, c7, c8, c9, c10] := h.set 6 d6
  have h : Box ((((W.setCell ⟨D, 4, none⟩ d4).setCell ⟨D, 5, none⟩ d5).setCell ⟨D, 6, none⟩ d6).setCell ⟨D, 7, none⟩ d7) D t #[c0, c1, c2, c3, d4, d5, d6, d7, c8, c9, c10] := h.set 7 d7
  have h : Box (((((W.setCell ⟨D, 4, none⟩ d4).setCell ⟨D, 5, none⟩ d5).setCell ⟨D, 6, none⟩ d6).setCell ⟨D, 7, none⟩ d7).setCell ⟨D, 8, none⟩ d8) D t #[c0, c1, c2, c3, d4, d5, d6, d7, d8, c9, c10] := h.set 8 d8
  have h : Box ((((((W.setCell ⟨D, 4, none⟩ d4).setCell ⟨D, 5, none⟩ d5).setCell ⟨D, 6, none⟩ d6).setCell ⟨D, 7, none⟩ d7).setCell ⟨D, 8, none⟩ d8).setCell ⟨D, 9, none⟩ d9) D t #[c0, c1, c2, c3, d4, d5, d6, d7, d8, d9, c10] := h.set 9 d9
  have h : Box (((((((W.setCell ⟨D, 4, none⟩ d4).setCell ⟨D, 5, none⟩ d5).setCell ⟨D, 6, none⟩ d6).setCell ⟨D, 7, none⟩ d7).setCell ⟨D, 8, none⟩ d8).setCell ⟨D, 9, none⟩ d9).setCell ⟨D, 10, none⟩ d10) D t #[c0, c1, c2, c3, d4, d5, d6, d7, d8, d9, d10] := h.set 10 d10
  exact h
theorem kz47 (W : World) (D : Nat) (d4 d5 d6 d7 d8 d9 d10 : Value) : Kb D W (((((((W.setCell ⟨D, 4, none⟩ d4).setCell ⟨D, 5, none⟩ d5).setCell ⟨D, 6, none⟩ d6).setCell ⟨D, 7, none⟩ d7).setCell ⟨D, 8, none⟩ d8).setCell ⟨D, 9, none⟩ d9).setCell ⟨D, 10, none⟩ d10) := ((((((((Kb.refl D W).set 4 d4).set 5 d5).set 6 d6).set 7 d7).set 8 d8).set 9 d9).set 10 d10)
theorem EFr.kz {n B : Nat} {W V U : World} {s : Ps} {t : TypeId} {zs cs cs' : Array Value} (h : EFr n B W V s t zs cs) (hn : n ≤ W.heap.size) (k : Kb (W.heap.size + 2) V U) (hc : Box U (W.heap.size + 2) t cs') : EFr n B W U s t zs cs' :=
  ⟨h.rs.kz k (by omega), h.kb.tz k (by omega), k.box h.bx (by omega), k.box h.zx (by omega), hc⟩
theorem own_cap {W : World} {base : Nat} {e : TypeId} {size : Nat} {a : Option Addr} {n c : Nat} {xs : List Value} (h : W.ownsRow base e size (.slice a n c) n xs) : n ≤ c := by
  rcases h.2 with ⟨e, h0⟩ | ⟨g, cap', cur, e, hb, hg, hr, _⟩
  · omega
  · simp only [Value.slice.injEq] at e
    omega
/-- The end of element: the mark of the loop is taken. -/
theorem elem_post {n B : Nat} {W VF : World} {D : Nat} {s : Ps} {e : Em} {p : Pl} (rF : RS n B VF s) (kF : Kb B W VF) (hdF : VF.heap[D]? = some (.deferred (some []))) (hD : W.heap.size ≤ D)
    (tF : TxM W.heap.size VF.heap.size VF p.ta e.ts) (lF : LiesM W.heap.size VF.heap.size VF p.ka e.t.kids) (hcap : e.ts.length ≤ p.tc) :
    ∃ v', Ending.returned (e.v p) = .returned v' ∧ ElemAt W.heap.size (VF.putObj D (.deferred none)) v' e ∧ RS n B (VF.putObj D (.deferred none)) s ∧ Kb B W (VF.putObj D (.deferred none)) := by
  have hg := grownBy_putObj' VF D (.deferred none)
  have hr : ∀ r, some D = some r → ∃ o : Obj, VF.heap[r]? = some o ∧ okN o := fun r e => by cases e; exact ⟨_, hdF, rfl⟩
  have hs := sm_grown hg hr
  exact ⟨_, rfl, ⟨p, rfl, (tF.sm hs (Nat.le_refl _)).mono (Nat.le_refl _) hg.size, (lF.sm hs (Nat.le_refl _)).mono (Nat.le_refl _) hg.size, hcap⟩, rF.sm hs hg.size, kF.grown hg fun k e => by cases e; exact hD⟩

end Go.Proofs.YtmhpakhnclkenaaGreatDoor

namespace Go.Proofs.YtmhpakhnclkenaaGreatDoor
open Go.RowKit Go.Shelf

attribute [local go_sem] Oper.semAt_some

/-- How an element ends. -/
def elE (al : Txt) (tt : List Txt) (pl nt br : Bool) (tx : Tree) (s6 s7 : Ps) : Em × Ps := if br then (⟨al, tt, pl, nt, tx⟩, must1 s7 sqcB) else (⟨al, tt, pl, nt, e0⟩, s6)

theorem owns_below' {A B : World} {base : Nat} {e : TypeId} {size : Nat} {v : Value} {n : Nat} {xs : List Value} (h : A.ownsRow base e size v n xs) (hb : Below A.heap.size A B) : B.ownsRow base e size v n xs :=
  owns_keep h fun g _ hl => hb.block g hl

set_option maxRecDepth 100000 in
set_option maxHeartbeats 8000000 in
theorem element9_c (n B : Nat) (s : Ps) (W : World) (h : RS n B W s) (hP : PsV W) (hB3 : 3 < B) :
    Calls Tryz.prog 52 #[.pointer (some ⟨B, 0, none⟩)] W fun r W' => ∃ v, r = .returned v ∧ ElemAt W.heap.size W' v (elemQ s).1 ∧ RS n B W' (elemQ s).2 ∧ Kb B W W' := by
  have hBl := h.lt
  have hnW := h.1
  obtain ⟨i0, hi0, hz0, hz1, hz2⟩ := info_parts infoTx
  have hmx : Tryz.prog.follows .mixedOrders = true := by kernel_rfl
  -- the pure values, as letters
  obtain ⟨nt, s1, e1⟩ : ∃ nt s1, eatP s bgB = (nt, s1) := ⟨_, _, rfl⟩
  obtain ⟨al, s2, e2⟩ : ∃ al s2, nameP s1 = (al, s2) := ⟨_, _, rfl⟩
  obtain ⟨s3, e3⟩ : ∃ s3, must1 s2 clnB = s3 := ⟨_, rfl⟩
  obtain ⟨hm1, hst, htl, hlast⟩ := parts_run nameP brB nameP_len s3
  have htot := (partsF_len nameP brB nameP_len (s3.rest.length + 1) s3).2
  obtain ⟨tt, s4, e4⟩ : ∃ tt s4, partsP nameP brB s3 = (tt, s4) := ⟨_, _, rfl⟩
  change (partsP nameP brB s3).1.length ≤ _ at htot
  rw [e4] at hm1 hst htl hlast htot
  simp only at hm1 hst htl hlast htot
  obtain ⟨pl, s5, e5⟩ : ∃ pl s5, eatP s4 psB = (pl, s5) := ⟨_, _, rfl⟩
  obtain ⟨br, s6, e6⟩ : ∃ br s6, eatP s5 sqoB = (br, s6) := ⟨_, _, rfl⟩
  obtain ⟨⟨dd, ks⟩, s7, e7⟩ : ∃ tx s7, condF s6 = (tx, s7) := ⟨_, _, rfl⟩
  have hq : elemQ s = elE al tt pl nt br (.mk dd ks) s6 s7 := by
    simp only [elemQ, e1, e2, show mustP s2 [clnB] = s3 from e3, e4, e5, e6, e7]
    rfl
  rw [hq]
  have cB := fun (V : World) (x : RS n B V s) => e1 ▸ eat_c n B s bgB V x
  have cN := fun (V : World) (x : RS n B V s1) => e2 ▸ name_c n B s1 V x
  have cM := fun (V : World) (x : RS n B V s2) => e3 ▸ must_one n B s2 clnB V x
  have cPl := fun (V : World) (x : RS n B V s4) => e5 ▸ eat_c n B s4 psB V x
  have cBr := fun (V : World) (x : RS n B V s5) => e6 ▸ eat_c n B s5 sqoB V x
  have cCo := fun (V : World) (x : RS n B V s6) (y : PsV V) => e7 ▸ cond_c n B s6 V x y hB3
  have cMe := fun (V : World) (x : RS n B V s7) => must_one n B s7 sqcB V x
  simp only at cB cN cPl cBr cCo
  replace cB := hide cB
  replace cN := hide cN
  replace cM := hide cM
  replace cPl := hide cPl
  replace cBr := hide cBr
  replace cCo := hide cCo
  replace cMe := hide cMe
  clear e1 e2 e3 e4 e5 e6 e7 hq
  refine callsIn_wide.1 (show CallsIn Fence.wide 5 _ _ _ _ _ from ?_)
  refine callsIn_of_wp_marks Tryz.func52 rfl trivial ?_ rfl
  simp only [Tryz.ntmps52, List.size_toArray, List.length_cons, List.length_nil, Nat.reduceAdd, Nat.reduceSub, Array.replicate_succ, Array.replicate_zero, List.push_toArray, List.append_toArray, List.nil_append, List.cons_append]
  obtain ⟨W0, hW0⟩ : ∃ W0, W0 = ((W.alloc (.cells #[.pointer (some ⟨B, 0, none⟩)] 56)).alloc (.cells zeroM 55)).alloc (.cells zeroM 55) := ⟨_, rfl⟩
  have b0 : Below W.heap.size W W0 := by rw [hW0]; exact (((Below.refl _ _).alloc (Nat.le_refl _) _).alloc (by simp) _).alloc (by simp; omega) _
  have F0 : EFr n B W W0 s 55 zeroM zeroM := ⟨h.up b0, Kb.of b0, by rw [hW0]; exact ((Box.new _ _ _).alloc _).alloc _, by rw [hW0]; exact (box_next _ _ _ _).alloc _, by
    rw [hW0]
    have := box_next (W.alloc (.cells #[.pointer (some ⟨B, 0, none⟩)] 56)) (.cells zeroM 55) 55 zeroM
    rwa [World.size_alloc] at this⟩
  clear b0
  gi_upto_region 2 with fail
  rw [← hW0]
  clear hW0
  obtain ⟨b0, -⟩ := F0.bx.one
  have FF := hide F0
  have cB1 := hide (callsIn_wide.2 (unhide cB W0 F0.rs) : CallsIn Fence.wide 4 _ _ _ _ _)
  clear F0 cB
  gi_wp2_with fail
  refine ⟨trivial, ?_⟩
  refine (unhide cB1).mono ?_
  rintro r W1 ⟨rfl, h1, k1⟩
  clear cB1 b0
  have F1 := (unhide FF).up hBl k1 h1
  have hf3 := F1.cx.frz 3
  have hc3 := F1.cx.at 3 rfl
  have G1 := hide (F1.set hnW 3 (.bool nt))
  clear F1 FF h1 k1
  gi_upto_region 3 with fail
  generalize W1.setCell ⟨W.heap.size + 2, 3, none⟩ (.bool nt) = V1 at G1 ⊢
  clear hf3 hc3
  have F2 := unhide G1
  clear G1
  obtain ⟨b0, -⟩ := F2.bx.one
  have cc := hide (callsIn_wide.2 (unhide cN V1 F2.rs) : CallsIn Fence.wide 4 _ _ _ _ _)
  have FF := hide F2
  clear F2
  gi_wp2_with fail
  refine ⟨trivial, ?_⟩
  refine (unhide cc).mono ?_
  rintro r W2 ⟨rfl, h1, k1⟩
  clear cc b0
  have F3 := (unhide FF).up hBl k1 h1
  clear FF h1 k1
  clear cN
  have hf3 := F3.cx.frz 0
  have hc3 := F3.cx.at 0 rfl
  have G1 := hide (F3.set hnW 0 (.string al.1))
  clear F3
  gi_upto_region 4 with fail
  generalize W2.setCell ⟨W.heap.size + 2, 0, none⟩ (.string al.1) = V2 at G1 ⊢
  clear hf3 hc3
  have F4 := unhide G1
  clear G1
  obtain ⟨b0, -⟩ := F4.bx.one
  have cc := hide (callsIn_wide.2 (unhide cM V2 F4.rs) : CallsIn Fence.wide 4 _ _ _ _ _)
  have FF := hide F4
  clear F4
  gi_wp2_with fail
  refine ⟨trivial, ?_⟩
  refine (unhide cc).mono ?_
  rintro r W3 ⟨rfl, h1, k1⟩
  clear cc b0
  have F5 := (unhide FF).up hBl k1 h1
  clear FF h1 k1
  clear cM
  have cQ := hide (callsIn_wide.2 (rparted_c B brB W3) : CallsIn Fence.wide 4 _ _ _ _ _)
  obtain ⟨b0, -⟩ := F5.bx.one
  have hW3 : W.heap.size + 3 ≤ W3.heap.size := by have := F5.cx.lt; omega
  have hs3l : s3.rest.length ≤ 1000 := by obtain ⟨_, _, _, _, _, y, _⟩ := F5.rs; exact y
  have FF := hide F5
  clear F5
  gi_wp2_with fail
  refine ⟨trivial, ?_⟩
  refine (unhide cQ).mono ?_
  rintro r W4 ⟨rfl, hb4, x1, x2⟩
  clear cQ b0
  obtain ⟨D1, hD1⟩ : ∃ D1, D1 = W3.heap.size := ⟨_, rfl⟩
  rw [← hD1] at x1 x2 hW3 ⊢
  have F6 := (unhide FF).up hBl (Kb.of hb4) ((unhide FF).rs.up hb4)
  have hW4 : D1 + 2 ≤ W4.heap.size := by have := x2.lt; omega
  clear FF hb4 hD1
  have J0 : TyJ n B W D1 (.string al.1) (.bool nt) brB s3 [] W4 := ⟨none, 0, F6, World.ownsRow_nil _ _ _ _, x1, x2⟩
  clear F6 x1 x2
  replace J0 := hide J0
  gi_wp2_with fail
  have J0' := unhide J0
  refine wpIn_rangeFunc_rounds rfl (by decide) (gf := 83) (lb := #[.pointer (some ⟨D1, 0, none⟩), .pointer (some ⟨D1 + 1, 0, none⟩)]) rfl trivial (enters_of Tryz.func83 (by kernel_rfl) rfl) (B := B) (by omega) (m := tt.length)
    (J := fun j => TyJ n B W D1 (.string al.1) (.bool nt) brB (prS nameP j s3) (tt.take j)) (E := fun j => TyJ n B W D1 (.string al.1) (.bool nt) brB (stS nameP j s3) (tt.take (j + 1))) (Fin := TyJ n B W D1 (.string al.1) (.bool nt) brB s4 tt)
    (parted_seq n B D1 (D1 + 1) brB tt.length hm1 (fun j => stS nameP j s3) _ _ _ hst ?hE ?hJ ?hF) (fun j => TyJ.own (by omega)) (fun j => TyJ.own (by omega)) (TyJ.own (by omega)) J0' ?assign ?body ?done
  case hE =>
    rintro j V hj ⟨a, c, F, ho, x1, x2⟩
    exact ⟨F.rs, x1, x2⟩
  case hJ =>
    intro j V U hj hE hk hr
    rw [prS_succ]
    exact hE.up hBl (by omega) hk hr
  case hF =>
    intro j V U hj hE hk hr
    have e1 : tt.take (j + 1) = tt := List.take_of_length_le (by omega)
    have e2 : s4 = stS nameP j s3 := by rw [hlast, show tt.length - 1 = j by omega]
    rw [e1] at hE
    rw [e2]
    exact hE.up hBl (by omega) hk hr
  case assign =>
    intro l j V K hj hJ hK
    gi_wp2_with fail
    exact hK
  case body =>
    rintro l j V hj ⟨a, c, F, ho, x1, x2⟩
    obtain ⟨x, hx⟩ : ∃ x, x = (nameP (prS nameP j s3)).1 := ⟨_, rfl⟩
    have htk : tt.take (j + 1) = tt.take j ++ [x] := by rw [List.take_add_one, htl j hj, hx]; rfl
    have hlj : (tt.take j).length = j := by simp; omega
    have hjl : j ≤ 1000 := by omega
    have E1 := hide (show ∀ U, TyJ n B W D1 (.string al.1) (.bool nt) brB (nameP (prS nameP j s3)).2 (tt.take j ++ [x]) U → TyJ n B W D1 (.string al.1) (.bool nt) brB (stS nameP j s3) (tt.take (j + 1)) U from fun U h => by rw [htk]; exact h)
    have cNm := hide (fun (U : World) (y : RS n B U (prS nameP j s3)) => name_c n B (prS nameP j s3) U y)
    rw [← hx] at cNm
    generalize tt.take j = ts at F ho E1 hlj htk
    generalize (nameP (prS nameP j s3)).2 = sN at E1 cNm
    generalize prS nameP j s3 = sJ at F cNm
    clear hx htk
    gi_wp2_with fail
    obtain ⟨V', hV'⟩ : ∃ V', V' = ({ heap := V.heap, tape := V.tape, drawn := V.drawn + 1, os := V.os, output := V.output } : World) := ⟨_, rfl⟩
    have bV : Below V.heap.size V V' := by rw [hV']; exact (Below.refl _ _).drew
    have FV := F.up hBl (Kb.of bV) (F.rs.up bV)
    have hoV := owns_below' ho bV
    have cD : Box V' (W.heap.size + 2) 55 #[.string al.1, .slice a ts.length c, .bool false, .bool nt, .int .i64 0, .int .i64 0, .int .i64 0, .string ⟨#[]⟩, .string ⟨#[]⟩, .string ⟨#[]⟩, .slice none 0 0] ∧ Box V' W.heap.size 56 #[.pointer (some ⟨B, 0, none⟩)] := ⟨FV.cx, FV.bx⟩
    have cc := hide (unhide cNm V' FV.rs)
    have kf0 : KeepsFrom W4.heap.size V V' := keeps_bel bV
    refine wpIn_region_plain hmx (by kernel_rfl) ?no (wpAny_of_Z (z := 7) (C := fun w' => Box w' (W.heap.size + 2) 55 #[.string al.1, .slice a ts.length c, .bool false, .bool nt, .int .i64 0, .int .i64 0, .int .i64 0, .string ⟨#[]⟩, .string ⟨#[]⟩, .string ⟨#[]⟩, .slice none 0 0] ∧ Box w' W.heap.size 56 #[.pointer (some ⟨B, 0, none⟩)]) _ _ _ _ ?_)
    case no => exact fun ⟨a, w, h⟩ => h
    rw [← hV']
    clear hV' F ho
    have FH := hide FV
    have OH := hide hoV
    have X1 := hide (x1.on bV x1.lt)
    have X2 := hide (x2.on bV x2.lt)
    have hxl := x2.lt
    clear FV hoV x1 x2
    refine wpAnyZ_reads 0 cD (by kernel_rfl) (by kernel_rfl) (by kernel_rfl) (by kernel_rfl) (fun d _ _ _ _ h => by cases d <;> exact h) (fun oi ho K hK => ?_)
    simp only [List.getElem?_toArray, List.getElem?_cons_zero, Option.some.injEq] at ho
    subst ho
    rw [if_pos (by kernel_rfl)]
    refine ⟨.pointer (some ⟨W.heap.size + 1 + 1, 1, none⟩), fun w' hw' => ?_, hK _ ?_⟩
    · clear hw'
      go_simp
    clear hK K
    refine wpAnyZ_reads 1 cD (by kernel_rfl) (by kernel_rfl) (by kernel_rfl) (by kernel_rfl) (fun d _ _ _ _ h => by cases d <;> exact h) (fun oi ho K hK => ?_)
    simp only [List.getElem?_toArray, List.getElem?_cons_succ, List.getElem?_cons_zero, Option.some.injEq] at ho
    subst ho
    rw [if_pos (by kernel_rfl)]
    refine ⟨.slice a ts.length c, fun w' hw' => ?_, hK _ ?_⟩
    · have q0 := hw'.1.at 1 rfl; have q1 := hw'.2.at 0 rfl
      go_simp
    clear hK K
    refine wpAnyZ_reads 2 cD (by kernel_rfl) (by kernel_rfl) (by kernel_rfl) (by kernel_rfl) (fun d _ _ _ _ h => by cases d <;> exact h) (fun oi ho K hK => ?_)
    simp only [List.getElem?_toArray, List.getElem?_cons_succ, List.getElem?_cons_zero, Option.some.injEq] at ho
    subst ho
    rw [if_pos (by kernel_rfl)]
    refine ⟨.pointer (some ⟨B, 0, none⟩), fun w' hw' => ?_, hK _ ?_⟩
    · have q0 := hw'.1.at 1 rfl; have q1 := hw'.2.at 0 rfl
      go_simp
    clear hK K
    refine wpAnyZ_calls 3 (by kernel_rfl) (fun oi ho K hK => ?_)
    simp only [List.getElem?_toArray, List.getElem?_cons_succ, List.getElem?_cons_zero, Option.some.injEq] at ho
    subst ho
    go_simp
    refine (unhide cc).mono ?_
    rintro r u1 ⟨rfl, h1, k1⟩
    clear cc
    go_simp
    have F1 := (unhide FH).up hBl k1 h1
    have ho1 := k1.own (by omega) (unhide OH)
    refine hK _ _ (.inr ⟨F1.cx, F1.bx⟩) ?_
    clear hK K
    refine wpAnyZ_calls 4 (by kernel_rfl) (fun oi ho K hK => ?_)
    simp only [List.getElem?_toArray, List.getElem?_cons_succ, List.getElem?_cons_zero, Option.some.injEq] at ho
    subst ho
    go_simp
    have b2 : Below u1.heap.size u1 (u1.alloc (.cells #[.string x.1] 9)) := (Below.refl _ _).alloc (Nat.le_refl _) _
    have F2 := F1.up hBl (Kb.of b2) (F1.rs.up b2)
    refine hK _ _ (.inr ⟨F2.cx, F2.bx⟩) ?_
    clear hK K
    obtain ⟨u, eu⟩ : ∃ u, u = u1.alloc (.cells #[.string x.1] 9) := ⟨_, rfl⟩
    have hnb : Box u u1.heap.size 9 #[.string x.1] := by rw [eu]; exact Box.new _ _ _
    rw [← eu] at b2 F2
    have hoU := owns_below' ho1 b2
    have kf2 : KeepsFrom W4.heap.size V u := kf0.trans ((keeps_kb k1 (unhide FH).rs.2.2.choose_spec.choose_spec.2.2.1).trans (keeps_bel b2))
    have X1U := (k1.box (unhide X1) (by omega)).on b2 (k1.box (unhide X1) (by omega)).lt
    have X2U := (k1.box (unhide X2) (by omega)).on b2 (k1.box (unhide X2) (by omega)).lt
    have hszu := X2U.lt
    rw [← eu]
    clear eu b2 F1 ho1 h1 k1 kf0
    refine wpAnyZ_calls 5 (by kernel_rfl) (fun oi ho K hK => ?_)
    simp only [List.getElem?_toArray, List.getElem?_cons_succ, List.getElem?_cons_zero, Option.some.injEq] at ho
    subst ho
    refine step_own u (by rfl) (.tmp 17) (.tmp 20) 53 (by rfl) (D1 + 2) 9 i0 (.string ⟨#[]⟩) 1 16 Tryz.underlying53 hi0 hz0 hz1 hz2 (by rfl) (by decide) (.slice a ts.length c) ts.length (ts.map fun t => .string t.1) ?q1 hoU ⟨u1.heap.size, 0, none⟩ 1 1 [.string x.1] ?q2 (by rfl) (news_box hnb) (fun q hq => by simp at hq; subst hq; rfl) (by unfold maxLen; omega) (by omega) (by omega) ?_
    case q1 => go_simp
    case q2 => go_simp
    intro v5 u5 ho5 hg5 hw5
    rw [show ts.map (fun t => Value.string t.1) ++ [.string x.1] = (ts ++ [x]).map fun t => .string t.1 by simp] at ho5
    have hrow : ∀ k, Value.ownBlock (.slice a ts.length c) = some k → D1 + 2 ≤ k := fun k e => (hoU.lt k e).1
    have F5 := F2.grow hnW hg5 (fun k e => by have := hrow k e; omega)
    have kf5 := kf2.trans (keeps_own (m := W4.heap.size) hoU hg5)
    have X15 : Box u5 D1 56 #[.pointer (some ⟨B, 0, none⟩)] := (hg5.block _ X1U.lt (fun e => by have := hrow _ e.symm; omega)).trans X1U
    have X25 : Box u5 (D1 + 1) 9 #[.string brB] := (hg5.block _ X2U.lt (fun e => by have := hrow _ e.symm; omega)).trans X2U
    obtain ⟨a5, c5, rfl⟩ := owns_form ho5
    refine hK _ _ (.inr ⟨F5.cx, F5.bx⟩) ?_
    clear hK K
    refine wpAnyZ_calls 6 (by kernel_rfl) (fun oi ho K hK => ?_)
    simp only [List.getElem?_toArray, List.getElem?_cons_succ, List.getElem?_cons_zero, Option.some.injEq] at ho
    subst ho
    go_simp
    refine hK _ _ (.inr ⟨F5.cx, F5.bx⟩) ?_
    clear hK K
    have hc1 := F5.cx.at 1 rfl
    have hf1 := F5.cx.frz 1
    have F6 := F5.set hnW 1 (.slice a5 (ts.length + 1) c5)
    have hol := ho5.lt
    have o6 : (u5.setCell ⟨W.heap.size + 2, 1, none⟩ (.slice a5 (ts.length + 1) c5)).ownsRow (D1 + 2) 9 1 (.slice a5 (ts.length + 1) c5) (ts.length + 1) ((ts ++ [x]).map fun t => .string t.1) := owns_keep ho5 (fun g hg _ => setCell_block _ _ _ (by have := (hol g hg).1; show W.heap.size + 2 ≠ g; omega))
    have X16 := X15.other ⟨W.heap.size + 2, 1, none⟩ (.slice a5 (ts.length + 1) c5) (by show W.heap.size + 2 ≠ D1; omega)
    have X26 := X25.other ⟨W.heap.size + 2, 1, none⟩ (.slice a5 (ts.length + 1) c5) (by show W.heap.size + 2 ≠ D1 + 1; omega)
    have kf6 := kf5.trans (keeps_set (m := W4.heap.size) F5.cx 1 (.slice a5 (ts.length + 1) c5))
    have fin := hide (unhide E1 _ ⟨a5, c5, by rw [List.length_append]; exact F6, by rw [List.length_append]; exact o6, X16, X26⟩)
    replace kf6 := hide kf6
    clear F6 o6 X16 X26 F5 X15 X25 kf5 ho5 hol hnb hoU F2 kf2 X1U X2U hg5 hw5 hrow FH OH X1 X2 E1
    refine wpAnyZ_calls 7 (by kernel_rfl) (fun oi ho K hK => ?_)
    simp only [List.getElem?_toArray, List.getElem?_cons_succ, List.getElem?_cons_zero, Option.some.injEq] at ho
    subst ho
    go_simp
    refine hK _ _ (.inl rfl) ?_
    clear hK K hc1 hf1
    refine wpAnyZ_done (by kernel_rfl) ?_ _
    have kf6' := unhide kf6
    have fin' := unhide fin
    rw [hlj] at kf6' fin'
    exact ⟨kf6', fin'⟩
  case done =>
    rintro D V3 hD ⟨a, c, F, ho, x1, x2⟩ hd
    clear hst htl hlast x1 x2 J0'
    obtain ⟨b0, -⟩ := F.bx.one
    have cc := hide (callsIn_wide.2 (unhide cPl V3 F.rs) : CallsIn Fence.wide 4 _ _ _ _ _)
    have FF := hide F
    have HO := hide ho
    have HD := hide hd
    clear F ho hd
    gi_wp2_with fail
    refine ⟨trivial, ?_⟩
    refine (unhide cc).mono ?_
    rintro r V4 ⟨rfl, h1, k1⟩
    clear cc b0
    have F1 := (unhide FF).up hBl k1 h1
    have ho := k1.own (by omega) (unhide HO)
    have hd := (k1.block _ (Array.getElem?_eq_some_iff.1 (unhide HD)).1 (by omega)).trans (unhide HD)
    clear FF h1 k1 HO HD
    have hc := F1.cx.at 2 rfl
    have hf := F1.cx.frz 2
    have G1 := hide (F1.set hnW 2 (.bool pl))
    have hol := ho.lt
    have HO := hide (show (V4.setCell ⟨W.heap.size + 2, 2, none⟩ (.bool pl)).ownsRow (D1 + 2) 9 1 (.slice a tt.length c) tt.length (tt.map fun t => .string t.1) from owns_keep ho (fun g hg _ => setCell_block _ _ _ (by have := (hol g hg).1; show W.heap.size + 2 ≠ g; omega)))
    have HD := hide (show (V4.setCell ⟨W.heap.size + 2, 2, none⟩ (.bool pl)).heap[D]? = some (.deferred (some [])) from (setCell_block _ _ _ (by show W.heap.size + 2 ≠ D; omega)).trans hd)
    clear F1 ho hd hol
    gi_upto_region 8 with fail
    generalize V4.setCell ⟨W.heap.size + 2, 2, none⟩ (.bool pl) = V5 at G1 HO HD ⊢
    clear hc hf
    have F1' := unhide G1
    have ho := unhide HO
    have hd := unhide HD
    clear G1 HO HD
    obtain ⟨b0, -⟩ := F1'.bx.one
    have cc := hide (callsIn_wide.2 (unhide cBr V5 F1'.rs) : CallsIn Fence.wide 4 _ _ _ _ _)
    have FF := hide F1'
    have HO := hide ho
    have HD := hide hd
    clear F1' ho hd
    gi_wp2_with fail
    refine ⟨trivial, ?_⟩
    refine (unhide cc).mono ?_
    rintro r V6 ⟨rfl, h1, k1⟩
    clear cc b0
    have F2 := (unhide FF).up hBl k1 h1
    have ho := k1.own (by omega) (unhide HO)
    have hd := (k1.block _ (Array.getElem?_eq_some_iff.1 (unhide HD)).1 (by omega)).trans (unhide HD)
    clear FF h1 k1 HO HD
    cases br
    · skip
      obtain ⟨hc0, hc1, hc2, hc3, hc4, hc5, hc6, hc7, hc8, hc9, hc10⟩ := F2.cx.eleven
      obtain ⟨hr0, hr1, hr2, hr3, hr4, hr5, hr6, hr7, hr8, hr9, hr10⟩ := F2.zx.eleven
      have hz0 := F2.zx.frz 0
      have hz1 := F2.zx.frz 1
      have hz2 := F2.zx.frz 2
      have hz3 := F2.zx.frz 3
      have hz4 := F2.zx.frz 4
      have hz5 := F2.zx.frz 5
      have hz6 := F2.zx.frz 6
      have hz7 := F2.zx.frz 7
      have hz8 := F2.zx.frz 8
      have hz9 := F2.zx.frz 9
      have hz10 := F2.zx.frz 10
      have hcap := hide (own_cap ho)
      have TX := hide (txm_own ho)
      have FF := hide F2
      have HD := hide hd
      have hzl := F2.cx.lt
      clear F2 ho hd
      gi_wp2_with fail
      obtain ⟨VF, hVF⟩ : ∃ VF, VF = (((((((((((V6.setCell ⟨W.heap.size + 1, 0, none⟩ (.string al.1)).setCell ⟨W.heap.size + 1, 1, none⟩ (.slice a tt.length c)).setCell ⟨W.heap.size + 1, 2, none⟩ (.bool pl)).setCell ⟨W.heap.size + 1, 3, none⟩ (.bool nt)).setCell ⟨W.heap.size + 1, 4, none⟩ (.int .i64 0)).setCell ⟨W.heap.size + 1, 5, none⟩ (.int .i64 0)).setCell ⟨W.heap.size + 1, 6, none⟩ (.int .i64 0)).setCell ⟨W.heap.size + 1, 7, none⟩ (.string ⟨#[]⟩)).setCell ⟨W.heap.size + 1, 8, none⟩ (.string ⟨#[]⟩)).setCell ⟨W.heap.size + 1, 9, none⟩ (.string ⟨#[]⟩)).setCell ⟨W.heap.size + 1, 10, none⟩ (.slice none 0 0)) := ⟨_, rfl⟩
      have zF : Box VF (W.heap.size + 1) 55 #[.string al.1, .slice a tt.length c, .bool pl, .bool nt, .int .i64 0, .int .i64 0, .int .i64 0, .string ⟨#[]⟩, .string ⟨#[]⟩, .string ⟨#[]⟩, .slice none 0 0] := by rw [hVF]; exact (unhide FF).zx.put11 (.string al.1) (.slice a tt.length c) (.bool pl) (.bool nt) (.int .i64 0) (.int .i64 0) (.int .i64 0) (.string ⟨#[]⟩) (.string ⟨#[]⟩) (.string ⟨#[]⟩) (.slice none 0 0)
      have kZ : Kb (W.heap.size + 1) V6 VF := by rw [hVF]; exact kz11 V6 (W.heap.size + 1) (.string al.1) (.slice a tt.length c) (.bool pl) (.bool nt) (.int .i64 0) (.int .i64 0) (.int .i64 0) (.string ⟨#[]⟩) (.string ⟨#[]⟩) (.string ⟨#[]⟩) (.slice none 0 0)
      have rF := (unhide FF).rs.kz kZ (by omega)
      have kF := (unhide FF).kb.tz kZ (by omega)
      have hdF := (kZ.block _ (Array.getElem?_eq_some_iff.1 (unhide HD)).1 (by omega)).trans (unhide HD)
      have tF := ((unhide TX).keep (fun b hm hb => kZ.block b hb (by omega))).mono (n := W.heap.size) (by omega) kZ.size
      have lF : LiesM W.heap.size VF.heap.size VF none (Em.mk al tt pl nt e0).t.kids := .nil _
      refine ⟨by simp, .inl ⟨_, _, rfl, run_takeDeferred (show ((((((((((((V6.setCell ⟨W.heap.size + 1, 0, none⟩ (.string al.1)).setCell ⟨W.heap.size + 1, 1, none⟩ (.slice a tt.length c)).setCell ⟨W.heap.size + 1, 2, none⟩ (.bool pl)).setCell ⟨W.heap.size + 1, 3, none⟩ (.bool nt)).setCell ⟨W.heap.size + 1, 4, none⟩ (.int .i64 0)).setCell ⟨W.heap.size + 1, 5, none⟩ (.int .i64 0)).setCell ⟨W.heap.size + 1, 6, none⟩ (.int .i64 0)).setCell ⟨W.heap.size + 1, 7, none⟩ (.string ⟨#[]⟩)).setCell ⟨W.heap.size + 1, 8, none⟩ (.string ⟨#[]⟩)).setCell ⟨W.heap.size + 1, 9, none⟩ (.string ⟨#[]⟩)).setCell ⟨W.heap.size + 1, 10, none⟩ (.slice none 0 0))).heap[D]? = _ by rw [← hVF]; exact hdF), ?_⟩⟩
      rw [← hVF]
      clear hVF
      have zP := zF.put hdF rfl (.deferred none)
      obtain ⟨q0, q1, q2, q3, q4, q5, q6, q7, q8, q9, q10⟩ := zP.eleven
      refine ⟨Em.v (Em.mk al tt pl nt e0) ⟨a, c, none, 0⟩, by simp [results, Tryz.results52, go_sem, q0, q1, q2, q3, q4, q5, q6, q7, q8, q9, q10, e0, d0], ?_⟩
      exact elem_post (p := ⟨a, c, none, 0⟩) (e := (Em.mk al tt pl nt e0)) rF kF hdF (by omega) tF lF (unhide hcap)
    · skip
      have cc := hide (callsIn_wide.2 (unhide cCo V6 F2.rs (hP.kb F2.kb hB3)) : CallsIn Fence.wide 4 _ _ _ _ _)
      obtain ⟨b0, -⟩ := F2.bx.one
      have FF := hide F2
      have HO := hide ho
      have HD := hide hd
      have hz6 := F2.cx.lt
      have hzd := (Array.getElem?_eq_some_iff.1 hd).1
      clear F2 ho hd
      gi_wp2_with fail
      refine ⟨trivial, ?_⟩
      refine (unhide cc).mono ?_
      rintro r V7 ⟨v, rfl, ⟨ka, kc, rfl, hl7⟩, h7, k7⟩
      clear cc b0
      have F3 := (unhide FF).up hBl k7 h7
      have ho := k7.own (by omega) (unhide HO)
      have hd := (k7.block _ hzd (by omega)).trans (unhide HD)
      clear FF h7 k7 HO HD
      obtain ⟨hc0, hc1, hc2, hc3, hc4, hc5, hc6, hc7, hc8, hc9, hc10⟩ := F3.cx.eleven
      have hf4 := F3.cx.frz 4
      have hf5 := F3.cx.frz 5
      have hf6 := F3.cx.frz 6
      have hf7 := F3.cx.frz 7
      have hf8 := F3.cx.frz 8
      have hf9 := F3.cx.frz 9
      have hf10 := F3.cx.frz 10
      have FF := hide F3
      have HO := hide ho
      have HD := hide hd
      have HL := hide hl7
      clear F3 ho hd hl7
      gi_upto_region 10 with fail
      obtain ⟨V8, hV8⟩ : ∃ V8, V8 = (((((((V7.setCell ⟨W.heap.size + 2, 4, none⟩ (.int .i64 dd.op)).setCell ⟨W.heap.size + 2, 5, none⟩ (.int .i64 dd.k)).setCell ⟨W.heap.size + 2, 6, none⟩ (.int .i64 dd.n)).setCell ⟨W.heap.size + 2, 7, none⟩ (.string dd.s.1)).setCell ⟨W.heap.size + 2, 8, none⟩ (.string dd.al.1)).setCell ⟨W.heap.size + 2, 9, none⟩ (.string dd.fd.1)).setCell ⟨W.heap.size + 2, 10, none⟩ (.slice ka ks.length kc)) := ⟨_, rfl⟩
      have kX : Kb (W.heap.size + 2) V7 V8 := by rw [hV8]; exact kz47 V7 (W.heap.size + 2) (.int .i64 dd.op) (.int .i64 dd.k) (.int .i64 dd.n) (.string dd.s.1) (.string dd.al.1) (.string dd.fd.1) (.slice ka ks.length kc)
      have F8 := (unhide FF).kz hnW kX (by rw [hV8]; exact (unhide FF).cx.put47 (.int .i64 dd.op) (.int .i64 dd.k) (.int .i64 dd.n) (.string dd.s.1) (.string dd.al.1) (.string dd.fd.1) (.slice ka ks.length kc))
      have ho := kX.own (by omega) (unhide HO)
      have hd := (kX.block _ (Array.getElem?_eq_some_iff.1 (unhide HD)).1 (by omega)).trans (unhide HD)
      have hl8 := (unhide HL).kb kX (by omega) (Nat.le_refl _)
      have hs8 : V7.heap.size ≤ V8.heap.size := kX.size
      rw [← hV8]
      clear hV8 kX FF HO HD HL hc0 hc1 hc2 hc3 hc4 hc5 hc6 hc7 hc8 hc9 hc10 hf4 hf5 hf6 hf7 hf8 hf9 hf10
      have cc := hide (callsIn_wide.2 (unhide cMe V8 F8.rs) : CallsIn Fence.wide 4 _ _ _ _ _)
      obtain ⟨b0, -⟩ := F8.bx.one
      have FF := hide F8
      have HO := hide ho
      have HD := hide hd
      have HL := hide hl8
      have hzd := (Array.getElem?_eq_some_iff.1 hd).1
      clear F8 ho hd hl8
      gi_wp2_with fail
      refine ⟨trivial, ?_⟩
      refine (unhide cc).mono ?_
      rintro r V9 ⟨rfl, h9, k9⟩
      clear cc b0
      have F4 := (unhide FF).up hBl k9 h9
      have ho := k9.own (by omega) (unhide HO)
      have hd := (k9.block _ hzd (by omega)).trans (unhide HD)
      have hl9 := (unhide HL).kb k9 (by omega) hs8
      have hs9 := Nat.le_trans hs8 k9.size
      clear FF h9 k9 HO HD HL
      obtain ⟨hc0, hc1, hc2, hc3, hc4, hc5, hc6, hc7, hc8, hc9, hc10⟩ := F4.cx.eleven
      obtain ⟨hr0, hr1, hr2, hr3, hr4, hr5, hr6, hr7, hr8, hr9, hr10⟩ := F4.zx.eleven
      have hz0 := F4.zx.frz 0
      have hz1 := F4.zx.frz 1
      have hz2 := F4.zx.frz 2
      have hz3 := F4.zx.frz 3
      have hz4 := F4.zx.frz 4
      have hz5 := F4.zx.frz 5
      have hz6 := F4.zx.frz 6
      have hz7 := F4.zx.frz 7
      have hz8 := F4.zx.frz 8
      have hz9 := F4.zx.frz 9
      have hz10 := F4.zx.frz 10
      have hcap := hide (own_cap ho)
      have TX := hide (txm_own ho)
      have FF := hide F4
      have HD := hide hd
      have hzl := F4.cx.lt
      have HL := hide hl9
      clear hl9
      clear F4 ho hd
      gi_wp2_with fail
      obtain ⟨VF, hVF⟩ : ∃ VF, VF = (((((((((((V9.setCell ⟨W.heap.size + 1, 0, none⟩ (.string al.1)).setCell ⟨W.heap.size + 1, 1, none⟩ (.slice a tt.length c)).setCell ⟨W.heap.size + 1, 2, none⟩ (.bool pl)).setCell ⟨W.heap.size + 1, 3, none⟩ (.bool nt)).setCell ⟨W.heap.size + 1, 4, none⟩ (.int .i64 dd.op)).setCell ⟨W.heap.size + 1, 5, none⟩ (.int .i64 dd.k)).setCell ⟨W.heap.size + 1, 6, none⟩ (.int .i64 dd.n)).setCell ⟨W.heap.size + 1, 7, none⟩ (.string dd.s.1)).setCell ⟨W.heap.size + 1, 8, none⟩ (.string dd.al.1)).setCell ⟨W.heap.size + 1, 9, none⟩ (.string dd.fd.1)).setCell ⟨W.heap.size + 1, 10, none⟩ (.slice ka ks.length kc)) := ⟨_, rfl⟩
      have zF : Box VF (W.heap.size + 1) 55 #[.string al.1, .slice a tt.length c, .bool pl, .bool nt, .int .i64 dd.op, .int .i64 dd.k, .int .i64 dd.n, .string dd.s.1, .string dd.al.1, .string dd.fd.1, .slice ka ks.length kc] := by rw [hVF]; exact (unhide FF).zx.put11 (.string al.1) (.slice a tt.length c) (.bool pl) (.bool nt) (.int .i64 dd.op) (.int .i64 dd.k) (.int .i64 dd.n) (.string dd.s.1) (.string dd.al.1) (.string dd.fd.1) (.slice ka ks.length kc)
      have kZ : Kb (W.heap.size + 1) V9 VF := by rw [hVF]; exact kz11 V9 (W.heap.size + 1) (.string al.1) (.slice a tt.length c) (.bool pl) (.bool nt) (.int .i64 dd.op) (.int .i64 dd.k) (.int .i64 dd.n) (.string dd.s.1) (.string dd.al.1) (.string dd.fd.1) (.slice ka ks.length kc)
      have rF := (unhide FF).rs.kz kZ (by omega)
      have kF := (unhide FF).kb.tz kZ (by omega)
      have hdF := (kZ.block _ (Array.getElem?_eq_some_iff.1 (unhide HD)).1 (by omega)).trans (unhide HD)
      have tF := ((unhide TX).keep (fun b hm hb => kZ.block b hb (by omega))).mono (n := W.heap.size) (by omega) kZ.size
      have lF : LiesM W.heap.size VF.heap.size VF ka (Em.mk al tt pl nt (.mk dd ks)).t.kids := ((unhide HL).keep (fun b hm hb => kZ.block b (by omega) (by omega))).mono (by omega) (Nat.le_trans hs9 kZ.size)
      refine ⟨by simp, .inl ⟨_, _, rfl, run_takeDeferred (show ((((((((((((V9.setCell ⟨W.heap.size + 1, 0, none⟩ (.string al.1)).setCell ⟨W.heap.size + 1, 1, none⟩ (.slice a tt.length c)).setCell ⟨W.heap.size + 1, 2, none⟩ (.bool pl)).setCell ⟨W.heap.size + 1, 3, none⟩ (.bool nt)).setCell ⟨W.heap.size + 1, 4, none⟩ (.int .i64 dd.op)).setCell ⟨W.heap.size + 1, 5, none⟩ (.int .i64 dd.k)).setCell ⟨W.heap.size + 1, 6, none⟩ (.int .i64 dd.n)).setCell ⟨W.heap.size + 1, 7, none⟩ (.string dd.s.1)).setCell ⟨W.heap.size + 1, 8, none⟩ (.string dd.al.1)).setCell ⟨W.heap.size + 1, 9, none⟩ (.string dd.fd.1)).setCell ⟨W.heap.size + 1, 10, none⟩ (.slice ka ks.length kc))).heap[D]? = _ by rw [← hVF]; exact hdF), ?_⟩⟩
      rw [← hVF]
      clear hVF
      have zP := zF.put hdF rfl (.deferred none)
      obtain ⟨q0, q1, q2, q3, q4, q5, q6, q7, q8, q9, q10⟩ := zP.eleven
      refine ⟨Em.v (Em.mk al tt pl nt (.mk dd ks)) ⟨a, c, ka, kc⟩, by simp [results, Tryz.results52, go_sem, q0, q1, q2, q3, q4, q5, q6, q7, q8, q9, q10], ?_⟩
      exact elem_post (p := ⟨a, c, ka, kc⟩) (e := (Em.mk al tt pl nt (.mk dd ks))) rF kF hdF (by omega) tF lF (unhide hcap)

end Go.Proofs.YtmhpakhnclkenaaGreatDoor
