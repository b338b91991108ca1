/-
  Conditions as trees, and as memory bears them: a row of nodes lies in a block, and the kids' rows wherever they lie; what only blocks above do leaves them.
-/
import Derived.Test.YtfofpenajkaalaaDoorTold
import Derived.Test.YtfofpenajkaalaaDoorRise
namespace Go.Proofs.YtfofpenajkaalaaDoor
open Go.RowKit Go.Shelf

/-- A text as memory bears it. -/
abbrev Txt := { s : ByteArray // s.size ≤ maxLen }
instance : Inhabited Txt := ⟨⟨ByteArray.empty, by decide⟩⟩

/-- The parts of a node that are no list. -/
structure Dat where
  op : Int
  k : Int
  n : Int
  s : Txt
  al : Txt
  fd : Txt

inductive Tree where
  | mk (d : Dat) (ks : List Tree)
abbrev Tree.dat : Tree → Dat
  | .mk d _ => d
abbrev Tree.kids : Tree → List Tree
  | .mk _ ks => ks

/-- The cells of a node whose kids lie at a. -/
abbrev Dat.cs (d : Dat) (a : Option Addr) (m cap : Nat) : Array Value := #[.int .i64 d.op, .int .i64 d.k, .int .i64 d.n, .string d.s.1, .string d.al.1, .string d.fd.1, .slice a m cap]
abbrev Dat.v (d : Dat) (a : Option Addr) (m cap : Nat) : Value := .agg (d.cs a m cap)

/-- These trees lie at a, all their memory below n₀. -/
inductive Lies (n₀ : Nat) (W : World) : Option Addr → List Tree → Prop
  | nil (a : Option Addr) : Lies n₀ W a []
  | row (b off : Nat) (ks : List Tree) (f : Nat → Option Addr × Nat) (hl : ks.length ≤ 1099511627776) (hb : b < n₀)
      (hc : ∀ j t, ks[j]? = some t → ∀ i u, (t.dat.cs (f j).1 t.kids.length (f j).2)[i]? = some u → W.cell? ⟨b, off + j * 7 + i, none⟩ = some u)
      (hk : ∀ j t, ks[j]? = some t → Lies n₀ W (f j).1 t.kids) : Lies n₀ W (some ⟨b, off, none⟩) ks

/-- Blocks of cells below n₀ lie as they lay. -/
def Sm (n₀ : Nat) (A B : World) : Prop := ∀ k o, k < n₀ → A.heap[k]? = some o → o.isCells = true → B.heap[k]? = some o
theorem Sm.refl (n₀ : Nat) (A : World) : Sm n₀ A A := fun _ _ _ h _ => h
theorem Sm.trans {n₀ : Nat} {A B C : World} (h : Sm n₀ A B) (k : Sm n₀ B C) : Sm n₀ A C := fun i o hi ho hc => k i o hi (h i o hi ho hc) hc
theorem Sm.of_below {n₀ : Nat} {A B : World} (h : Below n₀ A B) : Sm n₀ A B := fun k _ hk ho _ => (h.block k hk).trans ho
theorem Sm.cell {n₀ : Nat} {A B : World} (h : Sm n₀ A B) {b : Nat} {i : Nat} {v : Value} (hb : b < n₀) (hc : A.cell? ⟨b, i, none⟩ = some v) : B.cell? ⟨b, i, none⟩ = some v := by
  have e : B.heap[b]? = A.heap[b]? := by
    simp only [World.cell?] at hc
    cases ho : A.heap[b]? with
    | none => simp [ho] at hc
    | some o =>
      cases o with
      | cells c t r => exact h b _ hb ho rfl
      | _ => simp [ho] at hc
  simp only [World.cell?] at hc ⊢
  rw [e]; exact hc
theorem Lies.sm {n₀ : Nat} {A B : World} (h : Sm n₀ A B) {a : Option Addr} {ks : List Tree} (hl : Lies n₀ A a ks) : Lies n₀ B a ks := by
  induction hl with
  | nil a => exact .nil a
  | row b off ks f hl hb hc hk ih => exact .row b off ks f hl hb (fun j t hj i u hu => h.cell hb (hc j t hj i u hu)) ih
theorem Lies.mono {n₀ n₁ : Nat} (h : n₀ ≤ n₁) {A : World} {a : Option Addr} {ks : List Tree} (hl : Lies n₀ A a ks) : Lies n₁ A a ks := by
  induction hl with
  | nil a => exact .nil a
  | row b off ks f hl hb hc hk ih => exact .row b off ks f hl (Nat.lt_of_lt_of_le hb h) hc ih
theorem Lies.on {A B : World} {a : Option Addr} {ks : List Tree} (hl : Lies A.heap.size A a ks) (h : Below A.heap.size A B) : Lies B.heap.size B a ks := (hl.sm (Sm.of_below h)).mono h.size
theorem Lies.len {n₀ : Nat} {A : World} {a : Option Addr} {ks : List Tree} (hl : Lies n₀ A a ks) : ks.length ≤ 1099511627776 := by
  cases hl with
  | nil a => simp
  | row b off ks f hl => exact hl

mutual
/-- A walk: a node, then what is below it, each with its depth. -/
def walkT (d : Nat) : Tree → List (Nat × Tree)
  | .mk x ks => (d, .mk x ks) :: (if x.op = 0 ∨ d = 20 then [] else walkL (d + 1) ks)
def walkL (d : Nat) : List Tree → List (Nat × Tree)
  | [] => []
  | t :: ts => walkT d t ++ walkL d ts
end
theorem walkL_append (d : Nat) (xs ys : List Tree) : walkL d (xs ++ ys) = walkL d xs ++ walkL d ys := by
  induction xs with
  | nil => simp [walkL]
  | cons x xs ih => simp [walkL, ih]

/-- What is handed over at a step of a walk. -/
structure Step where
  d : Nat
  t : Tree
  a : Option Addr
  cap : Nat
abbrev Step.p (x : Step) : Nat × Tree := (x.d, x.t)
abbrev Step.v (x : Step) : Array Value := #[.int .i64 x.d, x.t.dat.v x.a x.t.kids.length x.cap]

/-- Which blocks a round may turn (X), in worlds that are good (Gd). -/
structure Cls (n₀ : Nat) (X : Nat → World → Prop) (Gd : World → Prop) : Prop where
  al : ∀ W o, Gd W → Gd (W.alloc o)
  new : ∀ W o, Gd W → ¬ X W.heap.size (W.alloc o)
  old : ∀ W o k, Gd W → ¬ X k W → ¬ X k (W.alloc o)
  low : ∀ W k, Gd W → X k W → n₀ ≤ k
  put : ∀ W l o o', Gd W → W.heap[l]? = some o → o.isCells = false → Gd (W.putObj l o') ∧ ∀ k, ¬ X k W → ¬ X k (W.putObj l o')

/-- Blocks of cells that may not be turned lie as they lay. -/
def KeepX (X : Nat → World → Prop) (Gd : World → Prop) (A B : World) : Prop :=
  Gd A → Gd B ∧ A.heap.size ≤ B.heap.size ∧ ∀ k o, A.heap[k]? = some o → o.isCells = true → ¬ X k A → B.heap[k]? = some o ∧ ¬ X k B
theorem KeepX.refl (X : Nat → World → Prop) (Gd : World → Prop) (A : World) : KeepX X Gd A A := fun h => ⟨h, Nat.le_refl _, fun _ _ h _ hx => ⟨h, hx⟩⟩
theorem KeepX.trans {X : Nat → World → Prop} {Gd : World → Prop} {A B C : World} (h : KeepX X Gd A B) (k : KeepX X Gd B C) : KeepX X Gd A C := fun g => by
  obtain ⟨h1, h2, h3⟩ := h g
  obtain ⟨k1, k2, k3⟩ := k h1
  exact ⟨k1, Nat.le_trans h2 k2, fun i o hi hc hx => by
    obtain ⟨q1, q2⟩ := h3 i o hi hc hx
    exact k3 i o q1 hc q2⟩
theorem KeepX.alloc {n₀ : Nat} {X : Nat → World → Prop} {Gd : World → Prop} (hc : Cls n₀ X Gd) (W : World) (o : Obj) : KeepX X Gd W (W.alloc o) := fun g =>
  ⟨hc.al W o g, by simp, fun k q hk _ hx => ⟨(((Below.refl _ W).alloc (Nat.le_refl _) o).block k (Array.getElem?_eq_some_iff.1 hk).1).trans hk, hc.old W o k g hx⟩⟩
theorem KeepX.put {n₀ : Nat} {X : Nat → World → Prop} {Gd : World → Prop} (hc : Cls n₀ X Gd) (W : World) {l : Nat} {o : Obj} (hl : W.heap[l]? = some o) (ho : o.isCells = false) (o' : Obj) : KeepX X Gd W (W.putObj l o') := fun g => by
  obtain ⟨h1, h2⟩ := hc.put W l o o' g hl ho
  exact ⟨h1, by simp, fun k q hk hq hx => ⟨(World.putObj_heap_other (fun e => by subst e; rw [hl] at hk; cases hk; rw [ho] at hq; cases hq)).trans hk, h2 k hx⟩⟩
theorem KeepX.sm {n₀ : Nat} {X : Nat → World → Prop} {Gd : World → Prop} (hc : Cls n₀ X Gd) {A B : World} (h : KeepX X Gd A B) (g : Gd A) : Sm n₀ A B := fun k o hk ho hco =>
  ((h g).2.2 k o ho hco (fun hx => by have := hc.low A k g hx; omega)).1

/-- What is told of a step: it is the next one, and its kids lie. -/
def ElT (n₀ : Nat) (T : List (Nat × Tree)) (pre : List Step) (x : Step) (W : World) : Prop := Lies n₀ W x.a x.t.kids ∧ ∃ rest, pre.map Step.p ++ x.p :: rest = T

end Go.Proofs.YtfofpenajkaalaaDoor
