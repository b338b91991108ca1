/-
  What package parse's reader does with a text's words, as plain functions.
  The reader in memory: its block, the words that are left; what only turns that block and what lies above.
  What the reader's small functions do: number, is, head, eat, must, take, name, end, op, literal, field.
  What the reader's take does.
  What the reader's name, end and must do.
  What the reader's op does.
  What the reader's literal and field do.
  What the reader's field does; trees in memory that is new.
  What the reader's field does.
-/
import Derived.Test.YtmhpakhnclkenaaGreatDoorPat
import Derived.Test.YtmhpakhnclkenaaGreatDoorWords
import Derived.Test.YtmhpakhnclkenaaGreatDoorWCut
import Derived.Test.YtmhpakhnclkenaaGreatDoorErrIs
namespace Go.Proofs.YtmhpakhnclkenaaGreatDoor
open Go.RowKit Go.Shelf

/-- A word as the reader has it: its kind (0 where a number is not written as it must be), text, number, place. -/
structure Pw where
  k : Int
  t : Txt
  n : Int
  p : Int
abbrev tx (l : List UInt8) (h : l.length ≤ maxLen := by decide) : Txt := ⟨⟨l.toArray⟩, by show l.toArray.size ≤ maxLen; simpa using h⟩
abbrev Pw.cs (w : Pw) : Array Value := #[.int .i64 w.k, .string w.t.1, .int .i64 w.n, .int .i64 w.p]
abbrev Pw.v (w : Pw) : Value := .agg w.cs
def pw0 : Pw := ⟨0, ⟨⟨#[]⟩, by decide⟩, 0, 0⟩

/-- The reader: the words that are left, how many nodes there are, what is wrong. -/
structure Ps where
  rest : List Pw
  nd : Int
  er : Int
def Ps.fail (s : Ps) (e : Int) : Ps := ⟨[], s.nd, if s.er = 0 then e else s.er⟩
def Ps.head (s : Ps) : Pw := s.rest.head?.getD pw0
def Ps.tl (s : Ps) : Ps := ⟨s.rest.tail, s.nd, s.er⟩
def isW (w : Pw) (t : ByteArray) : Bool := (decide (w.k = 5) || decide (w.k = 4)) && (w.t.1.toList == t.toList)
def takeP (s : Ps) (k : Int) : Pw × Ps := if s.head.k = k then (s.head, s.tl) else (pw0, s.fail 10)
def eatP (s : Ps) (t : ByteArray) : Bool × Ps := if isW s.head t then (true, s.tl) else (false, s)
def must1 (s : Ps) (t : ByteArray) : Ps := if isW s.head t then s.tl else s.fail 10
def mustP (s : Ps) (l : List ByteArray) : Ps := l.foldl must1 s
def endP (s : Ps) : Ps := if s.rest.length = 0 then s else s.fail 10

abbrev oB : ByteArray := ⟨#[40]⟩
abbrev cB : ByteArray := ⟨#[41]⟩
abbrev doB : ByteArray := ⟨#[46]⟩
abbrev noB : ByteArray := ⟨#[78, 79, 84]⟩
abbrev trB : ByteArray := ⟨#[84, 82, 85, 69]⟩
abbrev faB : ByteArray := ⟨#[70, 65, 76, 83, 69]⟩
abbrev bgB : ByteArray := ⟨#[33]⟩
abbrev clnB : ByteArray := ⟨#[58]⟩
abbrev brB : ByteArray := ⟨#[124]⟩
abbrev psB : ByteArray := ⟨#[43]⟩
abbrev sqoB : ByteArray := ⟨#[91]⟩
abbrev sqcB : ByteArray := ⟨#[93]⟩
abbrev cmB : ByteArray := ⟨#[44]⟩
abbrev seB : ByteArray := ⟨#[83, 69, 81]⟩
abbrev withB : ByteArray := ⟨#[87, 73, 84, 72, 73, 78]⟩
abbrev byyB : ByteArray := ⟨#[66, 89]⟩
abbrev anB : ByteArray := ⟨#[65, 78, 89]⟩
/-- The signs between two kids. -/
def psigns : List ByteArray := [⟨#[43]⟩, ⟨#[45]⟩, ⟨#[42]⟩, ⟨#[61]⟩, ⟨#[33, 61]⟩, ⟨#[60]⟩, ⟨#[60, 61]⟩, ⟨#[65, 78, 68]⟩, ⟨#[79, 82]⟩]

abbrev t0 : Txt := ⟨⟨#[]⟩, by decide⟩
abbrev e0 : Tree := .mk d0 []
def litB (w : Pw) : Bool := decide (w.k = 2) || decide (w.k = 3) || isW w trB || isW w faB
/-- A word's value: kind, number, text. -/
def litV (w : Pw) : Int × Int × Txt :=
  if w.k = 2 then (1, w.n, t0) else if w.k = 3 then (2, 0, w.t) else if isW w trB then (3, 1, t0) else if isW w faB then (3, 0, t0) else (0, 0, t0)
def litD (w : Pw) : Dat := ⟨1, (litV w).1, (litV w).2.1, (litV w).2.2, t0, t0⟩
abbrev dOp (o : Int) : Dat := ⟨o, 0, 0, t0, t0, t0⟩
def fieldP (s : Ps) : Tree × Ps :=
  (.mk ⟨2, 0, 0, t0, (takeP s 1).1.t, (takeP (mustP (takeP s 1).2 [doB]) 1).1.t⟩ [], (takeP (mustP (takeP s 1).2 [doB]) 1).2)
def opF : List ByteArray → Int → Ps → Int × Ps
  | [], _, s => (0, s.fail 10)
  | t :: r, i, s => if isW s.head t then (i, s.tl) else opF r (i + 1) s
def opP (s : Ps) : Int × Ps := opF psigns 3 s

def nodeF : Nat → Int → Ps → Tree × Ps
  | 0, _, s => (e0, s)
  | f + 1, d, s =>
    if litB s.head = false ∧ s.head.k ≠ 1 ∧ isW s.head oB = false then (e0, s.fail 10)
    else if 5 < d ∨ 24 < s.nd + 1 then (e0, (Ps.mk s.rest (s.nd + 1) s.er).fail 12)
    else if litB s.head then (.mk (litD s.head) [], (takeP ⟨s.rest, s.nd + 1, s.er⟩ s.head.k).2)
    else if s.head.k = 1 then fieldP ⟨s.rest, s.nd + 1, s.er⟩
    else
      let s2 := mustP ⟨s.rest, s.nd + 1, s.er⟩ [oB]
      if isW s2.head noB then
        let r := nodeF f (d + 1) s2.tl
        (.mk (dOp 12) [r.1], mustP r.2 [cB])
      else
        let r := nodeF f (d + 1) s2
        let o := opP r.2
        let q := nodeF f (d + 1) o.2
        (.mk (dOp o.1) [r.1, q.1], mustP q.2 [cB])
def condF (s : Ps) : Tree × Ps := nodeF 6 1 ⟨s.rest, 0, s.er⟩

/-- A row of parts: what each is, as long as the sign stands between. -/
def partsF {α : Type} (p : Ps → α × Ps) (t : ByteArray) : Nat → Ps → List α × Ps
  | 0, s => ([], s)
  | f + 1, s =>
    if isW (p s).2.head t then ((p s).1 :: (partsF p t f (p s).2.tl).1, (partsF p t f (p s).2.tl).2) else ([(p s).1], (p s).2)
def partsP {α : Type} (p : Ps → α × Ps) (t : ByteArray) (s : Ps) : List α × Ps := partsF p t (s.rest.length + 1) s
def nameP (s : Ps) : Txt × Ps := ((takeP s 1).1.t, (takeP s 1).2)
def elemQ (s : Ps) : Em × Ps :=
  let b := eatP s bgB
  let a := nameP b.2
  let ts := partsP nameP brB (mustP a.2 [clnB])
  let p := eatP ts.2 psB
  let q := eatP p.2 sqoB
  if q.1 then (⟨a.1, ts.1, p.1, b.1, (condF q.2).1⟩, mustP (condF q.2).2 [sqcB]) else (⟨a.1, ts.1, p.1, b.1, e0⟩, q.2)
def patternQ (s : Ps) : Pt × Ps :=
  let es := partsP elemQ cmB (mustP s [seB, oB])
  let w := takeP (mustP es.2 [cB, withB]) 2
  let b := eatP w.2 byyB
  let nm := if b.1 then nameP b.2 else (t0, b.2)
  let a := eatP nm.2 anB
  (⟨es.1, w.1.n, nm.1, a.1⟩, a.2)
def exprF (s : Ps) : Tree × Int :=
  let c := condF s
  if (endP c.2).er = 0 then (c.1, 0) else (e0, (endP c.2).er)
abbrev q0 : Pt := ⟨[], 0, t0, false⟩
def lastP (b : Bool) (s : Ps) : Ps := if b then s else s.fail 10
def patF (s : Ps) : Pt × Int :=
  let p := patternQ s
  let z := lastP (patB p.1) (endP p.2)
  if z.er = 0 then (p.1, 0) else (q0, z.er)

/-! ### Words only go. -/
theorem Ps.fail_len (s : Ps) (e : Int) : (s.fail e).rest.length = 0 := rfl
theorem Ps.tl_len (s : Ps) : s.tl.rest.length ≤ s.rest.length := by simp [Ps.tl]
theorem takeP_len (s : Ps) (k : Int) : (takeP s k).2.rest.length ≤ s.rest.length := by
  unfold takeP; split
  · exact s.tl_len
  · simp [Ps.fail]
theorem eatP_len (s : Ps) (t : ByteArray) : (eatP s t).2.rest.length ≤ s.rest.length := by
  unfold eatP; split
  · exact s.tl_len
  · exact Nat.le_refl _
theorem must1_len (s : Ps) (t : ByteArray) : (must1 s t).rest.length ≤ s.rest.length := by
  unfold must1; split
  · exact s.tl_len
  · simp [Ps.fail]
theorem mustP_len (l : List ByteArray) : ∀ s : Ps, (mustP s l).rest.length ≤ s.rest.length := by
  induction l with
  | nil => intro s; exact Nat.le_refl _
  | cons t r ih => intro s; exact Nat.le_trans (ih (must1 s t)) (must1_len s t)
theorem fieldP_len (s : Ps) : (fieldP s).2.rest.length ≤ s.rest.length :=
  Nat.le_trans (takeP_len _ _) (Nat.le_trans (mustP_len _ _) (takeP_len _ _))
theorem opF_len : ∀ (l : List ByteArray) (i : Int) (s : Ps), (opF l i s).2.rest.length ≤ s.rest.length
  | [], _, s => by simp [opF, Ps.fail]
  | t :: r, i, s => by
    unfold opF; split
    · exact s.tl_len
    · exact opF_len r _ s
theorem nodeF_len : ∀ (f : Nat) (d : Int) (s : Ps), (nodeF f d s).2.rest.length ≤ s.rest.length
  | 0, _, s => Nat.le_refl _
  | f + 1, d, s => by
    unfold nodeF
    split
    · simp [Ps.fail]
    split
    · simp [Ps.fail]
    split
    · exact takeP_len ⟨s.rest, s.nd + 1, s.er⟩ _
    split
    · exact fieldP_len ⟨s.rest, s.nd + 1, s.er⟩
    have h2 := mustP_len [oB] ⟨s.rest, s.nd + 1, s.er⟩
    simp only at h2 ⊢
    generalize mustP ⟨s.rest, s.nd + 1, s.er⟩ [oB] = s2 at h2 ⊢
    split
    · exact Nat.le_trans (mustP_len _ _) (Nat.le_trans (nodeF_len f _ _) (Nat.le_trans s2.tl_len h2))
    · exact Nat.le_trans (mustP_len _ _) (Nat.le_trans (nodeF_len f _ _) (Nat.le_trans (opF_len _ _ _) (Nat.le_trans (nodeF_len f _ _) h2)))
theorem condF_len (s : Ps) : (condF s).2.rest.length ≤ s.rest.length := nodeF_len 6 1 ⟨s.rest, 0, s.er⟩
theorem isW_pos {s : Ps} {t : ByteArray} (h : isW s.head t = true) : s.tl.rest.length + 1 = s.rest.length := by
  cases hr : s.rest with
  | nil => simp [Ps.head, hr, isW, pw0] at h
  | cons w r => simp [Ps.tl, hr]
theorem partsF_more {α : Type} (p : Ps → α × Ps) (t : ByteArray) (hp : ∀ s, (p s).2.rest.length ≤ s.rest.length) : ∀ (f g : Nat) (s : Ps), s.rest.length < f → s.rest.length < g → partsF p t f s = partsF p t g s
  | 0, _, _, h, _ => by omega
  | _, 0, _, _, h => by omega
  | f + 1, g + 1, s, h1, h2 => by
    unfold partsF
    split
    · rename_i hw
      have h3 := isW_pos hw
      have h4 := hp s
      rw [partsF_more p t hp f g _ (by omega) (by omega)]
    · rfl
theorem partsP_eq {α : Type} (p : Ps → α × Ps) (t : ByteArray) (hp : ∀ s, (p s).2.rest.length ≤ s.rest.length) (s : Ps) :
    partsP p t s = if isW (p s).2.head t then ((p s).1 :: (partsP p t (p s).2.tl).1, (partsP p t (p s).2.tl).2) else ([(p s).1], (p s).2) := by
  show partsF p t (s.rest.length + 1) s = _
  unfold partsF
  split
  · rename_i hw
    have h3 := isW_pos hw
    have h4 := hp s
    unfold partsP
    rw [partsF_more p t hp s.rest.length ((p s).2.tl.rest.length + 1) _ (by omega) (by omega)]
  · rfl
theorem partsF_len {α : Type} (p : Ps → α × Ps) (t : ByteArray) (hp : ∀ s, (p s).2.rest.length ≤ s.rest.length) : ∀ (f : Nat) (s : Ps), (partsF p t f s).2.rest.length ≤ s.rest.length ∧ (partsF p t f s).1.length ≤ s.rest.length + 1
  | 0, s => ⟨Nat.le_refl _, by simp [partsF]⟩
  | f + 1, s => by
    have h4 := hp s
    unfold partsF
    split
    · rename_i hw
      have h3 := isW_pos hw
      have ih := partsF_len p t hp f (p s).2.tl
      refine ⟨by simp only; omega, by simp only [List.length_cons]; omega⟩
    · exact ⟨h4, by simp⟩
theorem nameP_len (s : Ps) : (nameP s).2.rest.length ≤ s.rest.length := takeP_len _ _
theorem elemQ_len (s : Ps) : (elemQ s).2.rest.length ≤ s.rest.length := by
  have h1 := eatP_len s bgB
  have h2 := nameP_len (eatP s bgB).2
  have h3 := mustP_len [clnB] (nameP (eatP s bgB).2).2
  have h4 := (partsF_len nameP brB nameP_len ((mustP (nameP (eatP s bgB).2).2 [clnB]).rest.length + 1) (mustP (nameP (eatP s bgB).2).2 [clnB])).1
  have h5 := eatP_len (partsP nameP brB (mustP (nameP (eatP s bgB).2).2 [clnB])).2 psB
  have h6 := eatP_len (eatP (partsP nameP brB (mustP (nameP (eatP s bgB).2).2 [clnB])).2 psB).2 sqoB
  change (partsP nameP brB (mustP (nameP (eatP s bgB).2).2 [clnB])).2.rest.length ≤ _ at h4
  unfold elemQ
  simp only
  split
  · exact Nat.le_trans (mustP_len _ _) (Nat.le_trans (condF_len _) (by omega))
  · simp only; omega

/-! ### Nodes are few. -/
theorem takeP_nd (s : Ps) (k : Int) : (takeP s k).2.nd = s.nd := by unfold takeP; split <;> rfl
theorem must1_nd (s : Ps) (t : ByteArray) : (must1 s t).nd = s.nd := by unfold must1; split <;> rfl
theorem opF_nd : ∀ (l : List ByteArray) (i : Int) (s : Ps), (opF l i s).2.nd = s.nd
  | [], _, s => rfl
  | t :: r, i, s => by
    unfold opF; split
    · rfl
    · exact opF_nd r _ s
theorem nodeF_nd : ∀ (f : Nat) (d : Int) (s : Ps), s.nd ≤ (nodeF f d s).2.nd ∧ (nodeF f d s).2.nd < s.nd + 2 ^ f
  | 0, _, s => ⟨Int.le_refl _, by simp only [nodeF, Int.pow_zero]; omega⟩
  | f + 1, d, s => by
    have hp : (2 : Int) ^ (f + 1) = 2 * 2 ^ f := by rw [Int.pow_succ, Int.mul_comm]
    have h1 : (1 : Int) ≤ 2 ^ f := Int.le_of_lt_add_one (by have := Int.pow_pos (n := 2) (m := f) (by decide); omega)
    unfold nodeF
    split
    · exact ⟨Int.le_refl _, by simp [Ps.fail]; omega⟩
    split
    · exact ⟨by simp [Ps.fail]; omega, by simp [Ps.fail]; omega⟩
    split
    · simp only [takeP_nd]; omega
    split
    · simp only [fieldP, mustP, List.foldl_cons, List.foldl_nil, takeP_nd, must1_nd]; omega
    have h2 : (mustP ⟨s.rest, s.nd + 1, s.er⟩ [oB]).nd = s.nd + 1 := must1_nd _ _
    simp only
    generalize mustP ⟨s.rest, s.nd + 1, s.er⟩ [oB] = s2 at h2 ⊢
    split
    · have ih := nodeF_nd f (d + 1) s2.tl
      have e1 : s2.tl.nd = s2.nd := rfl
      simp only [mustP, List.foldl_cons, List.foldl_nil, must1_nd]
      omega
    · have ih := nodeF_nd f (d + 1) s2
      have ih2 := nodeF_nd f (d + 1) (opP (nodeF f (d + 1) s2).2).2
      have e1 : (opP (nodeF f (d + 1) s2).2).2.nd = (nodeF f (d + 1) s2).2.nd := opF_nd _ _ _
      simp only [mustP, List.foldl_cons, List.foldl_nil, must1_nd]
      omega

end Go.Proofs.YtmhpakhnclkenaaGreatDoor

namespace Go.Proofs.YtmhpakhnclkenaaGreatDoor
open Go.RowKit Go.Shelf

/-- Blocks that lay, but B, lie as they lay. -/
structure Kb (B : Nat) (w w' : World) : Prop where
  os : w'.os = w.os
  tape : w'.tape = w.tape
  output : w'.output = w.output
  size : w.heap.size ≤ w'.heap.size
  block : ∀ k, k < w.heap.size → k ≠ B → w'.heap[k]? = w.heap[k]?
theorem Kb.refl (B : Nat) (w : World) : Kb B w w := ⟨rfl, rfl, rfl, Nat.le_refl _, fun _ _ _ => rfl⟩
theorem Kb.trans {B : Nat} {a b c : World} (h : Kb B a b) (k : Kb B b c) : Kb B a c :=
  ⟨k.os.trans h.os, k.tape.trans h.tape, k.output.trans h.output, Nat.le_trans h.size k.size, fun i hi hn => (k.block i (Nat.lt_of_lt_of_le hi h.size) hn).trans (h.block i hi hn)⟩
theorem Kb.of {B : Nat} {a b : World} (h : Below a.heap.size a b) : Kb B a b := ⟨h.os, h.tape, h.output, h.size, fun k hk _ => h.block k hk⟩
theorem Kb.below {B n : Nat} {a b : World} (h : Kb B a b) (hB : n ≤ B) (hn : n ≤ a.heap.size) : Below n a b := ⟨h.os, h.tape, h.output, h.size, fun k hk => h.block k (by omega) (by omega)⟩
theorem Kb.set {B : Nat} {a b : World} (h : Kb B a b) (i : Nat) (v : Value) : Kb B a (b.setCell ⟨B, i, none⟩ v) :=
  ⟨h.os, h.tape, h.output, by simpa using h.size, fun k hk hn => (setCell_block b ⟨B, i, none⟩ v (fun e => hn e.symm)).trans (h.block k hk hn)⟩
theorem Kb.up {B : Nat} {a b c : World} (h : Kb B a b) (k : Below b.heap.size b c) : Kb B a c := h.trans (Kb.of k)
/-- A store into a block that is new. -/
theorem Kb.put {B : Nat} {a b : World} (h : Kb B a b) {p : Addr} (hp : a.heap.size ≤ p.block) (v : Value) : Kb B a (b.setCell p v) :=
  ⟨h.os, h.tape, h.output, by simpa using h.size, fun k hk hn => (setCell_block b p v (by omega)).trans (h.block k hk hn)⟩
theorem Kb.alloc {B : Nat} {a b : World} (h : Kb B a b) (o : Obj) : Kb B a (b.alloc o) := h.up ((Below.refl _ b).alloc (Nat.le_refl _) o)
theorem Kb.drew {B : Nat} {a b : World} (h : Kb B a b) : Kb B a b.drew := h.up (Below.refl _ b).drew
theorem Kb.grown {B : Nat} {a b c : World} {row : Option Nat} (h : Kb B a b) (hg : b.grownBy c row) (hr : ∀ k, row = some k → a.heap.size ≤ k) : Kb B a c := by
  have hb := (Below.refl a.heap.size b).grown hg h.size hr
  exact ⟨hb.os.trans h.os, hb.tape.trans h.tape, hb.output.trans h.output, Nat.le_trans h.size hb.size, fun k hk hn => (hb.block k hk).trans (h.block k hk hn)⟩
theorem Kb.box {B D : Nat} {a b : World} {t : TypeId} {cs : Array Value} (h : Kb B a b) (hx : Box a D t cs) (hn : D ≠ B) : Box b D t cs := (h.block D hx.lt hn).trans hx
theorem Kb.cell {B : Nat} {a b : World} (h : Kb B a b) {p : Addr} (hp : p.block < a.heap.size) (hn : p.block ≠ B) : b.cell? p = a.cell? p := World.cell?_of_block (w := a) (h.block p.block hp hn)
theorem Kb.own {B base : Nat} {a b : World} {e : TypeId} {size : Nat} {v : Value} {n : Nat} {xs : List Value} (h : Kb B a b) (hB : B < base) (ho : a.ownsRow base e size v n xs) : b.ownsRow base e size v n xs :=
  owns_keep ho fun g hg hl => h.block g hl (by have := (ho.lt g hg).1; omega)

/-- These words lie at a, below n. -/
def Pws (n B : Nat) (W : World) (a : Option Addr) (ws : List Pw) : Prop :=
  ws = [] ∨ ∃ b off, a = some ⟨b, off, none⟩ ∧ b ≠ B ∧ b < n ∧ ∀ (j : Nat) w, ws[j]? = some w → ∀ (i : Nat) u, w.cs[i]? = some u → W.cell? ⟨b, off + j * 4 + i, none⟩ = some u
theorem Pws.kb {n B : Nat} {A W : World} {a : Option Addr} {ws : List Pw} (h : Pws n B A a ws) (hn : n ≤ A.heap.size) (k : Kb B A W) : Pws n B W a ws := by
  rcases h with h | ⟨b, off, e, hb, hl, hc⟩
  · exact .inl h
  · exact .inr ⟨b, off, e, hb, hl, fun j w hj i u hu => (k.cell (p := ⟨b, _, none⟩) (Nat.lt_of_lt_of_le hl hn) hb).trans (hc j w hj i u hu)⟩
theorem Pws.put {n B : Nat} {A : World} {a : Option Addr} {ws : List Pw} (h : Pws n B A a ws) {p : Addr} (hp : n ≤ p.block) (v : Value) : Pws n B (A.setCell p v) a ws := by
  rcases h with h | ⟨b, off, e, hb, hl, hc⟩
  · exact .inl h
  · exact .inr ⟨b, off, e, hb, hl, fun j w hj i u hu => (World.cell?_of_block (w := A) (a := ⟨b, _, none⟩) (setCell_block A p v (by show p.block ≠ b; omega))).trans (hc j w hj i u hu)⟩

/-- The reader at B is so; it and its words lie below n. -/
def RS (n B : Nat) (W : World) (s : Ps) : Prop :=
  n ≤ W.heap.size ∧ B < n ∧ ∃ a cap, s.rest.length ≤ cap ∧ s.rest.length ≤ 1000 ∧ Box W B 61 #[.slice a s.rest.length cap, .int .i64 s.nd, errO s.er] ∧ Pws n B W a s.rest
theorem RS.lt {n B : Nat} {W : World} {s : Ps} (h : RS n B W s) : B < W.heap.size := Nat.lt_of_lt_of_le h.2.1 h.1
/-- .. and stays so where new memory alone is turned. -/
theorem RS.up {n B : Nat} {A W : World} {s : Ps} (h : RS n B A s) (k : Below A.heap.size A W) : RS n B W s := by
  obtain ⟨hn, hB, a, cap, h1, h2, hx, hw⟩ := h
  exact ⟨Nat.le_trans hn k.size, hB, a, cap, h1, h2, hx.on k hx.lt, hw.kb hn (Kb.of k)⟩
theorem RS.put {n B : Nat} {A : World} {s : Ps} (h : RS n B A s) {p : Addr} (hp : n ≤ p.block) (v : Value) : RS n B (A.setCell p v) s := by
  obtain ⟨hn, hB, a, cap, h1, h2, hx, hw⟩ := h
  exact ⟨by simpa using hn, hB, a, cap, h1, h2, hx.other p v (by omega), hw.put hp v⟩
theorem RS.grown {n B : Nat} {b c : World} {s : Ps} (h : RS n B b s) {row : Option Nat} (hg : b.grownBy c row) (hr : ∀ k, row = some k → n ≤ k) : RS n B c s := by
  obtain ⟨hn, hB, a, cap, h1, h2, hx, hw⟩ := h
  have hb := (Below.refl n b).grown hg hn hr
  refine ⟨Nat.le_trans hn hb.size, hB, a, cap, h1, h2, hx.on hb hB, ?_⟩
  rcases hw with hw | ⟨g, off, e, hgB, hl, hc⟩
  · exact .inl hw
  · exact .inr ⟨g, off, e, hgB, hl, fun j w hj i u hu => (hb.cell (p := ⟨g, _, none⟩) hl).trans (hc j w hj i u hu)⟩
theorem errO_not {e : Int} (h : e ≠ 0) : errO e = errV e := errO_ne h

set_option maxHeartbeats 1000000 in
theorem fail_c (n B : Nat) (s : Ps) (e : Int) (he : e ≠ 0) (w : World) (h : RS n B w s) :
    Calls Tryz.prog 25 #[.pointer (some ⟨B, 0, none⟩), errV e] w fun r w' => r = .returned (.tuple #[]) ∧ RS n B w' (s.fail e) ∧ Kb B w w' := by
  obtain ⟨hn, hB, a, cap, h1, h2, hx, hw⟩ := h
  obtain ⟨c0, c1, c2⟩ := hx.three
  have f0 := hx.frz 0
  have f2 := hx.frz 2
  by_cases h0 : s.er = 0
  · rw [h0, errO_zero] at c2 hx
    go_enter Tryz.func25, Tryz.ntmps25
    go_wp2_with fail
    go_end0
    have x1 : Box ((w.setCell ⟨B, 2, none⟩ (errV e)).setCell ⟨B, 0, none⟩ (.slice none 0 0)) B 61 #[.slice none 0 0, .int .i64 s.nd, errO e] := by
      have := (hx.set 2 (errV e)).set 0 (.slice none 0 0)
      rw [errO_not he]; exact this
    refine ⟨rfl, ⟨by simpa using hn, hB, none, 0, Nat.le_refl _, Nat.zero_le _, ?_, .inl rfl⟩, ((Kb.refl B w).set 2 _).set 0 _⟩
    simp only [Ps.fail, h0, if_true]
    exact x1
  · rw [errO_not h0] at c2 hx
    go_enter Tryz.func25, Tryz.ntmps25
    go_wp2_with fail
    go_end0
    refine ⟨rfl, ⟨by simpa using hn, hB, none, 0, Nat.le_refl _, Nat.zero_le _, ?_, .inl rfl⟩, (Kb.refl B w).set 0 _⟩
    simp only [Ps.fail, h0, if_false]
    rw [errO_not h0]
    exact hx.set 0 _

end Go.Proofs.YtmhpakhnclkenaaGreatDoor

namespace Go.Proofs.YtmhpakhnclkenaaGreatDoor
open Go.RowKit Go.Shelf

theorem psigns_len : psigns.length = 9 := rfl
def psgV : Array Value := (psigns.map Value.string).toArray
/-- The signs of package parse stand. -/
def PsV (W : World) : Prop := 3 < W.heap.size ∧ ∀ i, i < 9 → W.cell? ⟨3, i, none⟩ = psgV[i]?
theorem PsV.kb {B : Nat} {A W : World} (h : PsV A) (k : Kb B A W) (hB : 3 < B) : PsV W :=
  ⟨Nat.lt_of_lt_of_le h.1 k.size, fun i hi => (k.cell (p := ⟨3, i, none⟩) h.1 (by show (3 : Nat) ≠ B; omega)).trans (h.2 i hi)⟩

theorem Box.put3 {W : World} {B : Nat} {t : TypeId} {u v x : Value} (h : Box W B t #[u, v, x]) (a b c : Value) :
    Box (((W.setCell ⟨B, 0, none⟩ a).setCell ⟨B, 1, none⟩ b).setCell ⟨B, 2, none⟩ c) B t #[a, b, c] := ((h.set 0 a).set 1 b).set 2 c
theorem below3 {n : Nat} {A W : World} (h : Below n A W) {B : Nat} (hB : n ≤ B) (a b c : Value) :
    Below n A (((W.setCell ⟨B, 0, none⟩ a).setCell ⟨B, 1, none⟩ b).setCell ⟨B, 2, none⟩ c) :=
  ((h.setCell (p := ⟨B, 0, none⟩) hB a).setCell (p := ⟨B, 1, none⟩) hB b).setCell (p := ⟨B, 2, none⟩) hB c
/-- A box laid behind another one. -/
theorem box_next (W : World) (o : Obj) (t : TypeId) (cs : Array Value) : Box ((W.alloc o).alloc (.cells cs t)) (W.heap.size + 1) t cs := by
  have := Box.new (W.alloc o) t cs
  rwa [World.size_alloc] at this

set_option maxHeartbeats 1000000 in
theorem number_c (w : Pw) (W : World) :
    Calls Tryz.prog 44 #[w.v] W fun r W' => r = .returned (.agg #[.int .i64 1, .int .i64 w.n, .string ⟨#[]⟩]) ∧ Below W.heap.size W W' := by
  have b : Below W.heap.size W ((W.alloc (.cells w.cs 74)).alloc (.cells #[.int .i64 1, .int .i64 w.n, .string ⟨#[]⟩] 24)) := ((Below.refl _ _).alloc (Nat.le_refl _) _).alloc (by simp) _
  go_enter Tryz.func44, Tryz.ntmps44
  go_wp2_with fail
  exact bodyPost_ret (v := .agg #[.int .i64 1, .int .i64 w.n, .string ⟨#[]⟩]) (by simp [results, Tryz.results44, go_sem]) rfl ⟨rfl, b⟩

theorem eqlT (s t : ByteArray) (W : World) : (binOp .eql 9 (.string s) (.string t)).run Tryz.prog W = .ok (.bool (s.toList == t.toList)) W := by go_simp
set_option maxHeartbeats 1000000 in
theorem is_c (w : Pw) (t : ByteArray) (W : World) :
    Calls Tryz.prog 77 #[w.v, .string t] W fun r W' => r = .returned (.bool (isW w t)) ∧ Below W.heap.size W W' := by
  obtain ⟨z, hz⟩ : ∃ z, z = (w.t.1.toList == t.toList) := ⟨_, rfl⟩
  have b1 : Below W.heap.size W (W.alloc (.cells w.cs 74)) := (Below.refl _ _).alloc (Nat.le_refl _) _
  by_cases h5 : w.k = 5
  · have e : isW w t = z := by simp [isW, h5, hz]
    rw [e]
    go_enter Tryz.func77, Tryz.ntmps77
    go_wp2_with fail
    go_ret
    exact ⟨by rw [hz]; rfl, b1⟩
  · by_cases h4 : w.k = 4
    · have e : isW w t = z := by simp [isW, h4, hz]
      rw [e]
      go_enter Tryz.func77, Tryz.ntmps77
      go_wp2_with fail
      go_ret
      exact ⟨by rw [hz]; rfl, b1⟩
    · have e : isW w t = false := by simp [isW, h4, h5]
      rw [e]
      go_enter Tryz.func77, Tryz.ntmps77
      go_wp2_with fail
      go_ret
      exact ⟨rfl, b1⟩

/-- A word in a box. -/
theorem head_some {s : Ps} {w : Pw} {r : List Pw} (h : s.rest = w :: r) : s.head = w := by simp [Ps.head, h]
theorem head_none {s : Ps} (h : s.rest = []) : s.head = pw0 := by simp [Ps.head, h]
set_option maxHeartbeats 1000000 in
theorem head_c (n B : Nat) (s : Ps) (W : World) (h : RS n B W s) :
    Calls Tryz.prog 75 #[.pointer (some ⟨B, 0, none⟩)] W fun r W' => r = .returned s.head.v ∧ Below W.heap.size W W' := by
  have hlt := h.lt
  obtain ⟨hn, hB, a, cap, h1, h2, hx, hw⟩ := h
  have b : ∀ cs, Below W.heap.size W (W.alloc (.cells cs 74)) := fun cs => (Below.refl _ _).alloc (Nat.le_refl _) _
  obtain ⟨c0, -, -⟩ := hx.three
  cases hr : s.rest with
  | nil =>
    rw [hr, List.length_nil] at c0
    rw [head_none hr]
    go_enter Tryz.func75, Tryz.ntmps75
    go_wp2_with fail
    exact bodyPost_ret (v := pw0.v) (by simp [results, Tryz.results75, go_sem, pw0]) rfl ⟨rfl, b _⟩
  | cons w r =>
    rcases hw with hw | ⟨g, off, rfl, hg, hgl, hc⟩
    · rw [hr] at hw; cases hw
    rw [head_some hr]
    have k := hc 0 w (by rw [hr]; rfl)
    have k0 := k 0 _ rfl
    have k1 := k 1 _ rfl
    have k2 := k 2 _ rfl
    have k3 := k 3 _ rfl
    simp only [Nat.zero_mul, Nat.add_zero] at k0 k1 k2 k3
    rw [hr, List.length_cons] at c0
    have hgw : g < W.heap.size := by omega
    clear k hc hx hr
    have hn : ¬ ((r.length : Int) + 1 = 0) := by omega
    go_enter Tryz.func75, Tryz.ntmps75
    go_wp2_with fail
    exact bodyPost_ret (v := w.v) (by simp [results, Tryz.results75, go_sem]) rfl ⟨rfl, b _⟩

/-- The reader with its first word gone. -/
theorem tail_rs {n B : Nat} {s : Ps} {W : World} {g off cap : Nat} {w : Pw} {r : List Pw} (hr : s.rest = w :: r) (h1 : r.length + 1 ≤ cap) (hm : s.rest.length ≤ 1000)
    (hx : Box W B 61 #[.slice (some ⟨g, off, none⟩) s.rest.length cap, .int .i64 s.nd, errO s.er]) (hn : n ≤ W.heap.size) (hB : B < n) (hg : g ≠ B) (hgl : g < n)
    (hc : ∀ (j : Nat) w, s.rest[j]? = some w → ∀ (i : Nat) u, w.cs[i]? = some u → W.cell? ⟨g, off + j * 4 + i, none⟩ = some u) (a : Option Addr) (c : Nat)
    (hac : (a = some ⟨g, off, none⟩ ∧ c = 0 ∧ cap = 1) ∨ (a = some ⟨g, off + 4, none⟩ ∧ c = cap - 1)) :
    RS n B (W.setCell ⟨B, 0, none⟩ (.slice a r.length c)) s.tl := by
  have e : s.tl.rest = r := by simp [Ps.tl, hr]
  rw [hr, List.length_cons] at hm
  refine ⟨by simpa using hn, hB, a, c, by rw [e]; rcases hac with ⟨_, rfl, rfl⟩ | ⟨_, rfl⟩ <;> omega, by rw [e]; omega, by rw [e]; exact hx.set 0 _, ?_⟩
  rw [e]
  rcases hac with ⟨rfl, rfl, rfl⟩ | ⟨rfl, rfl⟩
  · exact .inl (List.eq_nil_of_length_eq_zero (by omega))
  · refine .inr ⟨g, off + 4, rfl, hg, hgl, fun j v hj i u hu => ?_⟩
    have := hc (j + 1) v (by rw [hr]; simpa using hj) i u hu
    rw [show off + 4 + j * 4 + i = off + (j + 1) * 4 + i by omega]
    exact (World.cell?_of_block (w := W) (a := ⟨g, _, none⟩) (setCell_block W ⟨B, 0, none⟩ (.slice (some ⟨g, off + 4, none⟩) r.length (cap - 1)) (fun e => hg e.symm))).trans this
/-- .. in a world behind the one in which the words lay. -/
theorem tail_at {n B : Nat} {s : Ps} {W V : World} {g off cap : Nat} {w : Pw} {r : List Pw} (hr : s.rest = w :: r) (h1 : r.length + 1 ≤ cap) (hm : s.rest.length ≤ 1000)
    (hn : n ≤ W.heap.size) (hB : B < n) (hg : g ≠ B) (hgl : g < n)
    (hc : ∀ (j : Nat) w, s.rest[j]? = some w → ∀ (i : Nat) u, w.cs[i]? = some u → W.cell? ⟨g, off + j * 4 + i, none⟩ = some u) (a : Option Addr) (c : Nat)
    (hac : (a = some ⟨g, off, none⟩ ∧ c = 0 ∧ cap = 1) ∨ (a = some ⟨g, off + 4, none⟩ ∧ c = cap - 1)) (k : Kb B W V) (hx : Box V B 61 #[.slice a r.length c, .int .i64 s.nd, errO s.er]) :
    RS n B V s.tl := by
  have e : s.tl.rest = r := by simp [Ps.tl, hr]
  rw [hr, List.length_cons] at hm
  refine ⟨Nat.le_trans hn k.size, hB, a, c, by rw [e]; rcases hac with ⟨_, rfl, rfl⟩ | ⟨_, rfl⟩ <;> omega, by rw [e]; omega, by rw [e]; exact hx, ?_⟩
  rw [e]
  rcases hac with ⟨rfl, rfl, rfl⟩ | ⟨rfl, rfl⟩
  · exact .inl (List.eq_nil_of_length_eq_zero (by omega))
  · refine .inr ⟨g, off + 4, rfl, hg, hgl, fun j v hj i u hu => ?_⟩
    have := hc (j + 1) v (by rw [hr]; simpa using hj) i u hu
    rw [show off + 4 + j * 4 + i = off + (j + 1) * 4 + i by omega]
    exact (k.cell (p := ⟨g, _, none⟩) (Nat.lt_of_lt_of_le hgl hn) hg).trans this
theorem rest_of {s : Ps} {t : ByteArray} (hi : isW s.head t = true) : ∃ w r, s.rest = w :: r := by
  cases hr : s.rest with
  | nil => rw [head_none hr] at hi; simp [isW, pw0] at hi
  | cons w r => exact ⟨w, r, rfl⟩

set_option maxHeartbeats 1000000 in
theorem eat_c (n B : Nat) (s : Ps) (t : ByteArray) (W : World) (h : RS n B W s) :
    Calls Tryz.prog 54 #[.pointer (some ⟨B, 0, none⟩), .string t] W fun r W' => r = .returned (.bool (eatP s t).1) ∧ RS n B W' (eatP s t).2 ∧ Kb B W W' := by
  have cH := hide (head_c n B s W h)
  have cI := hide (is_c s.head t)
  cases hi : isW s.head t
  · have e : eatP s t = (false, s) := by rw [eatP, hi]; rfl
    rw [e]
    rw [hi] at cI
    clear e
    go_enter Tryz.func54, Tryz.ntmps54
    go_wp2_with fail
    refine (unhide cH).mono ?_
    rintro r1 W1 ⟨rfl, hb1⟩
    clear cH
    go_wp2_with fail
    refine (unhide cI W1).mono ?_
    rintro r2 W2 ⟨rfl, hb2⟩
    clear cI
    have h2 := (h.up hb1).up hb2
    have k2 : Kb B W W2 := (Kb.of hb1).up hb2
    clear hb1 hb2 h
    go_wp2_with fail
    go_ret
    exact ⟨rfl, h2, k2⟩
  · have e : eatP s t = (true, s.tl) := by rw [eatP, hi]; rfl
    rw [e]
    rw [hi] at cI
    obtain ⟨w, r, hr⟩ := rest_of hi
    clear e
    go_enter Tryz.func54, Tryz.ntmps54
    go_wp2_with fail
    refine (unhide cH).mono ?_
    rintro r1 W1 ⟨rfl, hb1⟩
    clear cH
    go_wp2_with fail
    refine (unhide cI W1).mono ?_
    rintro r2 W2 ⟨rfl, hb2⟩
    clear cI
    have h2 := (h.up hb1).up hb2
    have k2 : Kb B W W2 := (Kb.of hb1).up hb2
    clear hb1 hb2 h
    obtain ⟨hn2, hB2, a, cap, h1, hm, hx, hw⟩ := h2
    obtain ⟨c0, -, -⟩ := hx.three
    have f0 := hx.frz 0
    rcases hw with hw | ⟨g, off, rfl, hg, hgl, hc⟩
    · rw [hr] at hw; cases hw
    rw [hr, List.length_cons] at c0 h1
    have T := hide (tail_rs hr h1 hm hx hn2 hB2 hg hgl hc)
    clear hx hm hc
    go_wp2_with fail
    all_goals go_ret
    · exact ⟨rfl, unhide T _ _ (.inl ⟨rfl, rfl, by first | trivial | rfl | omega⟩), k2.set 0 _⟩
    · exact ⟨rfl, unhide T _ _ (.inr ⟨rfl, rfl⟩), k2.set 0 _⟩

end Go.Proofs.YtmhpakhnclkenaaGreatDoor

namespace Go.Proofs.YtmhpakhnclkenaaGreatDoor
open Go.RowKit Go.Shelf

set_option maxHeartbeats 2000000 in
theorem take_c (n B : Nat) (s : Ps) (k : Int) (hk : k ≠ 0) (W : World) (h : RS n B W s) :
    Calls Tryz.prog 78 #[.pointer (some ⟨B, 0, none⟩), .int .i64 k] W fun r W' => r = .returned (takeP s k).1.v ∧ RS n B W' (takeP s k).2 ∧ Kb B W W' := by
  have hBl := h.lt
  obtain ⟨W0, hW0⟩ : ∃ W0, W0 = W.alloc (.cells #[.int .i64 0, .string ⟨#[]⟩, .int .i64 0, .int .i64 0] 74) := ⟨_, rfl⟩
  have b0 : Below W.heap.size W W0 := by rw [hW0]; exact (Below.refl _ _).alloc (Nat.le_refl _) _
  have x0 : Box W0 W.heap.size 74 #[.int .i64 0, .string ⟨#[]⟩, .int .i64 0, .int .i64 0] := by rw [hW0]; exact Box.new _ _ _
  have h0 := h.up b0
  have cH := hide (head_c n B s W0 h0)
  obtain ⟨hnW, hBn, a, cap, g1, hm, hx, hw⟩ := h
  have hs0 := x0.lt
  have hne : W.heap.size ≠ B := by omega
  by_cases hi : s.head.k = k
  · have e : takeP s k = (s.head, s.tl) := by rw [takeP, if_pos hi]
    rw [e]
    obtain ⟨w, r, hr⟩ : ∃ w r, s.rest = w :: r := by
      cases hr : s.rest with
      | nil => rw [head_none hr] at hi; exact absurd hi.symm hk
      | cons w r => exact ⟨w, r, rfl⟩
    rw [head_some hr] at hi cH ⊢
    subst hi
    rcases hw with hw | ⟨g, off, rfl, hg, hgl, hc⟩
    · rw [hr] at hw; cases hw
    have T := hide (fun V => tail_at (V := V) hr (by rw [hr] at g1; exact g1) hm hnW hBn hg hgl hc)
    have hxW := hide (hx.on b0 hx.lt)
    clear e hc hx
    go_enter Tryz.func78, Tryz.ntmps78
    go_upto_region 1 with fail
    rw [← hW0]
    clear hW0
    go_wp2_with fail
    refine (unhide cH).mono ?_
    rintro r1 W1 ⟨rfl, hb1⟩
    clear cH
    have k1 : Kb B W W1 := (Kb.of b0).up hb1
    have x1 := x0.on hb1 x0.lt
    have hs1 := hb1.size
    have hx1 := (unhide hxW).on hb1 (unhide hxW).lt
    clear hxW
    obtain ⟨W2, hW2⟩ : ∃ W2, W2 = W1.alloc (.cells w.cs 74) := ⟨_, rfl⟩
    have b2 : Below W1.heap.size W1 W2 := by rw [hW2]; exact (Below.refl _ _).alloc (Nat.le_refl _) _
    have y2 : Box W2 W1.heap.size 74 w.cs := by rw [hW2]; exact Box.new _ _ _
    have x2 := x1.on b2 x1.lt
    have hx2 := hx1.on b2 hx1.lt
    have k2 := k1.up b2
    clear hm hb1 b0
    obtain ⟨d0, -, -⟩ := hx2.three
    have p0 := hx2.frz 0
    obtain ⟨u0, u1, u2, u3, v0, v1, v2, v3⟩ := x2.four8
    obtain ⟨y0, y1, y2, y3, -⟩ := y2.four8
    rw [hr, List.length_cons] at d0
    have X := hide x2
    have HX := hide hx2
    clear hx2 x1 h0 x2 hx1
    go_upto_region 2 with fail
    rw [← hW2]
    clear hW2
    go_wp2_with fail
    all_goals
      generalize e5 : W2.setCell ⟨B, 0, none⟩ _ = W3
      have x3 : Box W3 W.heap.size 74 #[.int .i64 0, .string ⟨#[]⟩, .int .i64 0, .int .i64 0] := by rw [← e5]; exact (unhide X).other _ _ (fun e => hne e.symm)
      obtain ⟨q0, q1, q2, q3, -⟩ := (x3.put4 (.int .i64 w.k) (.string w.t.1) (.int .i64 w.n) (.int .i64 w.p)).four8
      have k3 : Kb B W W3 := by rw [← e5]; exact k2.set 0 _
      have k4 := (((k3.put (p := ⟨W.heap.size, 0, none⟩) (Nat.le_refl _) (.int .i64 w.k)).put (p := ⟨W.heap.size, 1, none⟩) (Nat.le_refl _) (.string w.t.1)).put (p := ⟨W.heap.size, 2, none⟩) (Nat.le_refl _) (.int .i64 w.n)).put (p := ⟨W.heap.size, 3, none⟩) (Nat.le_refl _) (.int .i64 w.p)
      refine bodyPost_ret (v := w.v) (by simp [results, Tryz.results78, go_sem, q0, q1, q2, q3]) rfl ⟨rfl, ?_, k4⟩
    · exact unhide T _ _ _ (.inl ⟨rfl, rfl, by first | trivial | rfl | omega⟩) k4 (by
        have := (unhide HX).set 0 (.slice (some ⟨g, off, none⟩) r.length 0)
        rw [e5] at this
        exact (((this.other ⟨W.heap.size, 0, none⟩ _ hne).other ⟨W.heap.size, 1, none⟩ _ hne).other ⟨W.heap.size, 2, none⟩ _ hne).other ⟨W.heap.size, 3, none⟩ _ hne)
    · exact unhide T _ _ _ (.inr ⟨rfl, rfl⟩) k4 (by
        have := (unhide HX).set 0 (.slice (some ⟨g, off + 4, none⟩) r.length (cap - 1))
        rw [e5] at this
        exact (((this.other ⟨W.heap.size, 0, none⟩ _ hne).other ⟨W.heap.size, 1, none⟩ _ hne).other ⟨W.heap.size, 2, none⟩ _ hne).other ⟨W.heap.size, 3, none⟩ _ hne)
  · have e : takeP s k = (pw0, s.fail 10) := by rw [takeP, if_neg hi]
    rw [e]
    have cF := hide (fun V => fail_c n B s 10 (by decide) V)
    clear e hx hw
    go_enter Tryz.func78, Tryz.ntmps78
    go_upto_region 1 with fail
    rw [← hW0]
    clear hW0
    go_wp2_with fail
    refine (unhide cH).mono ?_
    rintro r1 W1 ⟨rfl, hb1⟩
    clear cH
    have h1 := h0.up hb1
    have k1 : Kb B W W1 := (Kb.of b0).up hb1
    have x1 := x0.on hb1 x0.lt
    obtain ⟨W2, hW2⟩ : ∃ W2, W2 = W1.alloc (.cells s.head.cs 74) := ⟨_, rfl⟩
    have b2 : Below W1.heap.size W1 W2 := by rw [hW2]; exact (Below.refl _ _).alloc (Nat.le_refl _) _
    have y2 : Box W2 W1.heap.size 74 s.head.cs := by rw [hW2]; exact Box.new _ _ _
    have x2 := x1.on b2 x1.lt
    have h2 := h1.up b2
    have k2 := k1.up b2
    obtain ⟨y0, -⟩ := y2.four8
    go_upto_region 2 with fail
    rw [← hW2]
    clear hW2
    go_upto_region 3 with fail
    go_wp2_with fail
    refine (unhide cF W2 h2).mono ?_
    rintro r3 W3 ⟨rfl, h3, hk3⟩
    have x3 := hk3.box x2 hne
    have k3 := k2.trans hk3
    obtain ⟨u0, u1, u2, u3, v0, v1, v2, v3⟩ := x3.four8
    go_wp2_with fail
    obtain ⟨q0, q1, q2, q3, -⟩ := (x3.put4 (.int .i64 0) (.string ⟨#[]⟩) (.int .i64 0) (.int .i64 0)).four8
    have k4 := (((k3.put (p := ⟨W.heap.size, 0, none⟩) (Nat.le_refl _) (.int .i64 0)).put (p := ⟨W.heap.size, 1, none⟩) (Nat.le_refl _) (.string ⟨#[]⟩)).put (p := ⟨W.heap.size, 2, none⟩) (Nat.le_refl _) (.int .i64 0)).put (p := ⟨W.heap.size, 3, none⟩) (Nat.le_refl _) (.int .i64 0)
    refine bodyPost_ret (v := pw0.v) (by simp [results, Tryz.results78, go_sem, q0, q1, q2, q3, pw0]) rfl ⟨rfl, ?_, k4⟩
    exact (((h3.put (p := ⟨W.heap.size, 0, none⟩) hnW _).put (p := ⟨W.heap.size, 1, none⟩) hnW _).put (p := ⟨W.heap.size, 2, none⟩) hnW _).put (p := ⟨W.heap.size, 3, none⟩) hnW _

end Go.Proofs.YtmhpakhnclkenaaGreatDoor

namespace Go.Proofs.YtmhpakhnclkenaaGreatDoor
open Go.RowKit Go.Shelf

theorem field_t (w : Pw) (W : World) : (Instr.field 74 (.agg #[.int .i64 w.k, .string w.t.1, .int .i64 w.n, .int .i64 w.p]) 1).run Tryz.prog W = .ok (.string w.t.1) W := by kernel_rfl
theorem field_n (w : Pw) (W : World) : (Instr.field 74 (.agg #[.int .i64 w.k, .string w.t.1, .int .i64 w.n, .int .i64 w.p]) 2).run Tryz.prog W = .ok (.int .i64 w.n) W := by kernel_rfl
set_option maxRecDepth 100000 in
set_option maxHeartbeats 1000000 in
theorem name_c (n B : Nat) (s : Ps) (W : World) (h : RS n B W s) :
    Calls Tryz.prog 55 #[.pointer (some ⟨B, 0, none⟩)] W fun r W' => r = .returned (.string (nameP s).1.1) ∧ RS n B W' (nameP s).2 ∧ Kb B W W' := by
  have cT := take_c n B s 1 (by decide) W h
  unfold nameP
  generalize takeP s 1 = p at cT ⊢
  obtain ⟨w, s1⟩ := p
  replace cT := hide cT
  go_enter Tryz.func55, Tryz.ntmps55
  go_wp2_with fail
  refine (unhide cT).mono ?_
  rintro r W1 ⟨hr, h1, k1⟩
  obtain rfl : r = .returned (.agg #[.int .i64 w.k, .string w.t.1, .int .i64 w.n, .int .i64 w.p]) := hr
  clear cT
  have hf := field_t w
  go_wp2_with fail
  go_ret
  exact ⟨rfl, h1, k1⟩



set_option maxHeartbeats 1000000 in
theorem end_c (n B : Nat) (s : Ps) (W : World) (h : RS n B W s) :
    Calls Tryz.prog 20 #[.pointer (some ⟨B, 0, none⟩)] W fun r W' => r = .returned (.tuple #[]) ∧ RS n B W' (endP s) ∧ Kb B W W' := by
  have hh := hide h
  obtain ⟨hnW, hBn, a, cap, g1, hm, hx, hw⟩ := h
  obtain ⟨c0, -, -⟩ := hx.three
  clear hx hw
  by_cases hn : s.rest.length = 0
  · have e : endP s = s := by rw [endP, if_pos hn]
    rw [e]
    rw [hn] at c0
    clear e
    go_enter Tryz.func20, Tryz.ntmps20
    go_wp2_with fail
    go_end0
    exact ⟨rfl, unhide hh, Kb.refl _ _⟩
  · have e : endP s = s.fail 10 := by rw [endP, if_neg hn]
    rw [e]
    have cF := hide (fail_c n B s 10 (by decide) W (unhide hh))
    have hp : (0 : Int) < s.rest.length := by omega
    clear e
    go_enter Tryz.func20, Tryz.ntmps20
    go_wp2_with fail
    refine (unhide cF).mono ?_
    rintro r W1 ⟨rfl, h1, k1⟩
    go_wp2_with fail
    go_end0
    exact ⟨rfl, h1, k1⟩

/-- Texts that lie in a block. -/
def TxD (D : Nat) (W : World) (ts : List ByteArray) : Prop := D < W.heap.size ∧ ∀ (j : Nat) t, ts[j]? = some t → W.cell? ⟨D, j, none⟩ = some (.string t)
theorem mustP_snoc (s : Ps) (l : List ByteArray) (t : ByteArray) : mustP s (l ++ [t]) = must1 (mustP s l) t := by simp [mustP]

set_option maxRecDepth 100000 in
set_option maxHeartbeats 2000000 in
theorem must_c (n B : Nat) (s : Ps) (ts : List ByteArray) (D cap : Nat) (W : World) (h : RS n B W s) (hT : TxD D W ts) (hD : D ≠ B) (hl : ts.length ≤ 1000) :
    Calls Tryz.prog 50 #[.pointer (some ⟨B, 0, none⟩), .slice (some ⟨D, 0, none⟩) ts.length cap] W fun r W' => r = .returned (.tuple #[]) ∧ RS n B W' (mustP s ts) ∧ Kb B W W' := by
  go_enter Tryz.func50, Tryz.ntmps50
  go_wp2_with fail
  go_loopw [8] (fun i wr => ∃ k : Nat, k ≤ ts.length ∧ i = .int .i64 k ∧ Hid (RS n B wr (mustP s (ts.take k)) ∧ Kb B W wr)) (fun i _ => ts.length - (intOf i).toNat)
  case atStart => exact ⟨0, Nat.zero_le _, rfl, hide ⟨h, Kb.refl _ _⟩⟩
  case round =>
    obtain ⟨k, hk, rfl, hR⟩ := hrel
    obtain ⟨hR, hK⟩ := unhide hR
    by_cases hlt : k < ts.length
    · obtain ⟨t, ht⟩ : ∃ t, ts[k]? = some t := ⟨_, List.getElem?_eq_getElem hlt⟩
      have htk : ts.take (k + 1) = ts.take k ++ [t] := by
        rw [List.take_add_one, ht]; rfl
      have c0 : wr.cell? ⟨D, k, none⟩ = some (.string t) := (hK.cell (p := ⟨D, k, none⟩) hT.1 hD).trans (hT.2 k t ht)
      have cE := hide (eat_c n B (mustP s (ts.take k)) t wr hR)
      have hM := hide (mustP_snoc s (ts.take k) t)
      replace htk := hide htk
      generalize hs : mustP s (ts.take k) = s1 at cE hM hR
      clear hT ht
      cases hi : isW s1.head t
      · have e1 : eatP s1 t = (false, s1) := by rw [eatP, hi]; rfl
        have e2 : must1 s1 t = s1.fail 10 := by rw [must1, hi]; rfl
        rw [e1] at cE
        rw [e2] at hM
        clear e1 e2
        go_wp2_with fail
        refine (unhide cE).mono ?_
        rintro r W1 ⟨rfl, h1, k1⟩
        go_wp2_with fail
        refine (fail_c n B s1 10 (by decide) W1 h1).mono ?_
        rintro r2 W2 ⟨rfl, h2, k2⟩
        go_wp2_with fail
        go_roundw
        case rel => exact ⟨k + 1, by omega, by go_num, hide ⟨by rw [unhide htk, unhide hM]; exact h2, (hK.trans k1).trans k2⟩⟩
        case measure => simp [intOf]; omega
      · have e1 : eatP s1 t = (true, s1.tl) := by rw [eatP, hi]; rfl
        have e2 : must1 s1 t = s1.tl := by rw [must1, hi]; rfl
        rw [e1] at cE
        rw [e2] at hM
        clear e1 e2
        go_wp2_with fail
        refine (unhide cE).mono ?_
        rintro r W1 ⟨rfl, h1, k1⟩
        go_wp2_with fail
        go_roundw
        case rel => exact ⟨k + 1, by omega, by go_num, hide ⟨by rw [unhide htk, unhide hM]; exact h1, hK.trans k1⟩⟩
        case measure => simp [intOf]; omega
    · have hke : ts.take k = ts := List.take_of_length_le (by omega)
      rw [hke] at hR
      have hn : k = ts.length := by omega
      go_wp2_with fail
      go_end0
      exact ⟨rfl, hR, hK⟩

end Go.Proofs.YtmhpakhnclkenaaGreatDoor

namespace Go.Proofs.YtmhpakhnclkenaaGreatDoor
open Go.RowKit Go.Shelf

theorem infoTx : (Tryz.prog.info? 9).map (fun i => (i.zero, i.size, i.bytes)) = some (some (.string ⟨#[]⟩), 1, 16) := by kernel_rfl
theorem psg_index : ∀ k : Nat, k < 9 → ∀ W, (Instr.index 159 (.agg psgV) (.int .i64 k)).run Tryz.prog W = .ok (.string (psigns.getD k ⟨#[]⟩)) W
  | 0, _, _ => by kernel_rfl
  | 1, _, _ => by kernel_rfl
  | 2, _, _ => by kernel_rfl
  | 3, _, _ => by kernel_rfl
  | 4, _, _ => by kernel_rfl
  | 5, _, _ => by kernel_rfl
  | 6, _, _ => by kernel_rfl
  | 7, _, _ => by kernel_rfl
  | 8, _, _ => by kernel_rfl
  | k + 9, h, _ => by omega

theorem opF_drop (k : Nat) (h : k < 9) (s : Ps) : opF (psigns.drop k) (3 + k) s = if isW s.head (psigns.getD k ⟨#[]⟩) then (3 + (k : Int), s.tl) else opF (psigns.drop (k + 1)) (3 + ((k + 1 : Nat) : Int)) s := by
  have hk : k < psigns.length := h
  rw [List.drop_eq_getElem_cons hk, opF]
  have e : psigns[k] = psigns.getD k ⟨#[]⟩ := by simp [List.getD, List.getElem?_eq_getElem hk]
  rw [e, show (3 : Int) + (k : Int) + 1 = 3 + ((k + 1 : Nat) : Int) by omega]

set_option maxRecDepth 100000 in
set_option maxHeartbeats 2000000 in
theorem op_c (n B : Nat) (s : Ps) (W : World) (h : RS n B W s) (hV : PsV W) (_hB : 3 < B) :
    Calls Tryz.prog 110 #[.pointer (some ⟨B, 0, none⟩)] W fun r W' => r = .returned (.int .i64 (opP s).1) ∧ RS n B W' (opP s).2 ∧ Kb B W W' := by
  obtain ⟨hs3, hsg⟩ := hV
  have g0 := hsg 0 (by decide)
  have g1 := hsg 1 (by decide)
  have g2 := hsg 2 (by decide)
  have g3 := hsg 3 (by decide)
  have g4 := hsg 4 (by decide)
  have g5 := hsg 5 (by decide)
  have g6 := hsg 6 (by decide)
  have g7 := hsg 7 (by decide)
  have g8 := hsg 8 (by decide)
  simp only [psgV, psigns, List.map_cons, List.map_nil, List.getElem?_toArray, List.getElem?_cons_succ, List.getElem?_cons_zero] at g0 g1 g2 g3 g4 g5 g6 g7 g8
  clear hsg
  go_enter Tryz.func110, Tryz.ntmps110
  go_wp2_with fail
  clear g0 g1 g2 g3 g4 g5 g6 g7 g8
  go_loopw [6] (fun i wr => ∃ k : Nat, k ≤ 9 ∧ i = .int .i64 k ∧ Hid (opP s = opF (psigns.drop k) (3 + k) s ∧ RS n B wr s ∧ Kb B W wr)) (fun i _ => 9 - (intOf i).toNat)
  case atStart => exact ⟨0, Nat.zero_le _, rfl, hide ⟨rfl, h, Kb.refl _ _⟩⟩
  case round =>
    obtain ⟨k, hk, rfl, hR⟩ := hrel
    obtain ⟨hP, hR2, hK⟩ := unhide hR
    clear hR
    have hR := hR2
    clear hR2
    by_cases hlt : k < 9
    · have hat := psg_index k hlt
      rw [opF_drop k hlt] at hP
      have cE := hide (eat_c n B s (psigns.getD k ⟨#[]⟩) wr hR)
      generalize psigns.getD k ⟨#[]⟩ = t at hat hP cE
      unfold psgV at hat
      simp only [psigns, List.map_cons, List.map_nil] at hat
      cases hi : isW s.head t
      · rw [hi] at hP
        have e1 : eatP s t = (false, s) := by rw [eatP, hi]; rfl
        rw [e1] at cE
        replace hP := hide hP
        clear e1
        go_wp2_with fail
        refine (unhide cE).mono ?_
        rintro r W1 ⟨rfl, h1, k1⟩
        go_wp2_with fail
        go_roundw
        case rel => exact ⟨k + 1, by omega, by go_num, hide ⟨unhide hP, h1, hK.trans k1⟩⟩
        case measure => simp [intOf]; omega
      · rw [hi] at hP
        have e1 : eatP s t = (true, s.tl) := by rw [eatP, hi]; rfl
        rw [e1] at cE
        replace hP := hide hP
        clear e1
        go_wp2_with fail
        refine (unhide cE).mono ?_
        rintro r W1 ⟨rfl, h1, k1⟩
        go_wp2_with fail
        go_ret
        have e2 : opP s = (3 + (k : Int), s.tl) := unhide hP
        rw [e2]
        exact ⟨by first | rfl | go_num, h1, hK.trans k1⟩
    · obtain rfl : k = 9 := by omega
      have e2 : opP s = (0, s.fail 10) := hP
      replace e2 := hide e2
      clear hP
      have cF := hide (fail_c n B s 10 (by decide) wr hR)
      go_wp2_with fail
      refine (unhide cF).mono ?_
      rintro r W1 ⟨rfl, h1, k1⟩
      go_wp2_with fail
      go_ret
      rw [unhide e2]
      exact ⟨rfl, h1, hK.trans k1⟩

end Go.Proofs.YtmhpakhnclkenaaGreatDoor

namespace Go.Proofs.YtmhpakhnclkenaaGreatDoor
open Go.RowKit Go.Shelf

theorem isW_k {w : Pw} {t : ByteArray} (h : isW w t = true) : w.k = 5 ∨ w.k = 4 := by
  simp only [isW, Bool.and_eq_true, Bool.or_eq_true, decide_eq_true_eq] at h
  exact h.1

set_option maxRecDepth 100000 in
set_option maxHeartbeats 2000000 in
theorem literal9_c (w : Pw) (W : World) :
    Calls Tryz.prog 76 #[w.v] W fun r W' => r = .returned (.tuple #[.agg #[.int .i64 (litV w).1, .int .i64 (litV w).2.1, .string (litV w).2.2.1], .bool (litB w)]) ∧ Below W.heap.size W W' := by
  obtain ⟨W0, hW0⟩ : ∃ W0, W0 = (W.alloc (.cells w.cs 74)).alloc (.cells #[.int .i64 0, .int .i64 0, .string ⟨#[]⟩] 24) := ⟨_, rfl⟩
  have b0 : Below W.heap.size W W0 := by rw [hW0]; exact ((Below.refl _ _).alloc (Nat.le_refl _) _).alloc (by simp) _
  have y0 : Box W0 W.heap.size 74 w.cs := by rw [hW0]; exact (Box.new _ _ _).alloc _
  have x0 : Box W0 (W.heap.size + 1) 24 #[.int .i64 0, .int .i64 0, .string ⟨#[]⟩] := by rw [hW0]; exact box_next _ _ _ _
  obtain ⟨e0, e1, e2, e3, -⟩ := y0.four8
  have cN := hide (number_c ⟨2, w.t, w.n, w.p⟩ W0)
  have cI := hide (is_c w)
  have cB0 := hide b0
  have cX0 := hide x0
  have cY0 := hide y0
  clear b0
  by_cases h2 : w.k = 2
  · have hv : litV w = (1, w.n, t0) := by rw [litV, if_pos h2]
    have hb : litB w = true := by simp [litB, h2]
    rw [hv, hb]
    clear hv hb
    go_enter Tryz.func76, Tryz.ntmps76
    go_upto_region 1 with fail
    rw [← hW0]
    clear hW0
    go_wp2_with fail
    refine (unhide cN).mono ?_
    rintro r W1 ⟨rfl, hb1⟩
    have x1 := (unhide cX0).on hb1 (unhide cX0).lt
    obtain ⟨c0, c1, c2⟩ := x1.three
    have f0 := x1.frz 0
    have f1 := x1.frz 1
    have f2 := x1.frz 2
    go_wp2_with fail
    have b3 := below3 ((unhide cB0).trans (hb1.mono (unhide cB0).size)) (B := W.heap.size + 1) (by omega) (.int .i64 1) (.int .i64 w.n) (.string ⟨#[]⟩)
    obtain ⟨q0, q1, q2⟩ := (x1.put3 (.int .i64 1) (.int .i64 w.n) (.string ⟨#[]⟩)).three
    exact bodyPost_ret (v := .tuple #[.agg #[.int .i64 1, .int .i64 w.n, .string ⟨#[]⟩], .bool true]) (by simp [results, Tryz.results76, go_sem, q0, q1, q2]) rfl ⟨rfl, b3⟩
  by_cases h3 : w.k = 3
  · have hv : litV w = (2, 0, w.t) := by rw [litV, if_neg h2, if_pos h3]
    have hb : litB w = true := by simp [litB, h3]
    rw [hv, hb]
    clear hv hb
    obtain ⟨c0, c1, c2⟩ := x0.three
    have f0 := x0.frz 0
    have f1 := x0.frz 1
    have f2 := x0.frz 2
    go_enter Tryz.func76, Tryz.ntmps76
    go_upto_region 1 with fail
    rw [← hW0]
    clear hW0
    go_wp2_with fail
    have b3 := below3 (unhide cB0) (B := W.heap.size + 1) (by omega) (.int .i64 2) (.int .i64 0) (.string w.t.1)
    obtain ⟨q0, q1, q2⟩ := ((unhide cX0).put3 (.int .i64 2) (.int .i64 0) (.string w.t.1)).three
    exact bodyPost_ret (v := .tuple #[.agg #[.int .i64 2, .int .i64 0, .string w.t.1], .bool true]) (by simp [results, Tryz.results76, go_sem, q0, q1, q2]) rfl ⟨rfl, b3⟩
  have cT := hide (unhide cI trB W0)
  by_cases ht : isW w trB = true
  · have hv : litV w = (3, 1, t0) := by rw [litV, if_neg h2, if_neg h3, if_pos ht]
    have hb : litB w = true := by simp [litB, ht]
    rw [hv, hb]
    rw [ht] at cT
    clear hv hb ht
    go_enter Tryz.func76, Tryz.ntmps76
    go_upto_region 1 with fail
    rw [← hW0]
    clear hW0
    go_wp2_with fail
    refine (unhide cT).mono ?_
    rintro r W1 ⟨rfl, hb1⟩
    have x1 := (unhide cX0).on hb1 (unhide cX0).lt
    obtain ⟨c0, c1, c2⟩ := x1.three
    have f0 := x1.frz 0
    have f1 := x1.frz 1
    have f2 := x1.frz 2
    go_wp2_with fail
    have b3 := below3 ((unhide cB0).trans (hb1.mono (unhide cB0).size)) (B := W.heap.size + 1) (by omega) (.int .i64 3) (.int .i64 1) (.string ⟨#[]⟩)
    obtain ⟨q0, q1, q2⟩ := (x1.put3 (.int .i64 3) (.int .i64 1) (.string ⟨#[]⟩)).three
    exact bodyPost_ret (v := .tuple #[.agg #[.int .i64 3, .int .i64 1, .string ⟨#[]⟩], .bool true]) (by simp [results, Tryz.results76, go_sem, q0, q1, q2]) rfl ⟨rfl, b3⟩
  replace ht : isW w trB = false := by simpa using ht
  by_cases hf : isW w faB = true
  all_goals
    have hv : litV w = if isW w faB then (3, 0, t0) else (0, 0, t0) := by rw [litV, if_neg h2, if_neg h3, ht]; rfl
    have hb : litB w = isW w faB := by simp [litB, ht, h2, h3]
    rw [hv, hb]
    rw [ht] at cT
    clear hv hb ht
  · rw [hf]
    go_enter Tryz.func76, Tryz.ntmps76
    go_upto_region 1 with fail
    rw [← hW0]
    clear hW0
    go_wp2_with fail
    refine (unhide cT).mono ?_
    rintro r W1 ⟨rfl, hb1⟩
    have y1 := (unhide cY0).on hb1 (unhide cY0).lt
    have x1 := (unhide cX0).on hb1 (unhide cX0).lt
    have cF := hide (unhide cI faB W1)
    rw [hf] at cF
    clear hf
    obtain ⟨d0, d1, d2, d3, -⟩ := y1.four8
    go_wp2_with fail
    refine (unhide cF).mono ?_
    rintro r W2 ⟨rfl, hb2⟩
    have x2 := x1.on hb2 x1.lt
    obtain ⟨c0, c1, c2⟩ := x2.three
    have f0 := x2.frz 0
    have f1 := x2.frz 1
    have f2 := x2.frz 2
    go_wp2_with fail
    have b2 := ((unhide cB0).trans (hb1.mono (unhide cB0).size)).trans (hb2.mono (Nat.le_trans (unhide cB0).size hb1.size))
    have b3 := below3 b2 (B := W.heap.size + 1) (by omega) (.int .i64 3) (.int .i64 0) (.string ⟨#[]⟩)
    obtain ⟨q0, q1, q2⟩ := (x2.put3 (.int .i64 3) (.int .i64 0) (.string ⟨#[]⟩)).three
    exact bodyPost_ret (v := .tuple #[.agg #[.int .i64 3, .int .i64 0, .string ⟨#[]⟩], .bool true]) (by simp [results, Tryz.results76, go_sem, q0, q1, q2]) rfl ⟨rfl, b3⟩
  · replace hf : isW w faB = false := by simpa using hf
    rw [hf]
    go_enter Tryz.func76, Tryz.ntmps76
    go_upto_region 1 with fail
    rw [← hW0]
    clear hW0
    go_wp2_with fail
    refine (unhide cT).mono ?_
    rintro r W1 ⟨rfl, hb1⟩
    have y1 := (unhide cY0).on hb1 (unhide cY0).lt
    have x1 := (unhide cX0).on hb1 (unhide cX0).lt
    have cF := hide (unhide cI faB W1)
    rw [hf] at cF
    clear hf
    obtain ⟨d0, d1, d2, d3, -⟩ := y1.four8
    go_wp2_with fail
    refine (unhide cF).mono ?_
    rintro r W2 ⟨rfl, hb2⟩
    have x2 := x1.on hb2 x1.lt
    obtain ⟨c0, c1, c2⟩ := x2.three
    have f0 := x2.frz 0
    have f1 := x2.frz 1
    have f2 := x2.frz 2
    go_wp2_with fail
    have b2 := ((unhide cB0).trans (hb1.mono (unhide cB0).size)).trans (hb2.mono (Nat.le_trans (unhide cB0).size hb1.size))
    have b3 := below3 b2 (B := W.heap.size + 1) (by omega) (.int .i64 0) (.int .i64 0) (.string ⟨#[]⟩)
    obtain ⟨q0, q1, q2⟩ := (x2.put3 (.int .i64 0) (.int .i64 0) (.string ⟨#[]⟩)).three
    exact bodyPost_ret (v := .tuple #[.agg #[.int .i64 0, .int .i64 0, .string ⟨#[]⟩], .bool false]) (by simp [results, Tryz.results76, go_sem, q0, q1, q2]) rfl ⟨rfl, b3⟩

end Go.Proofs.YtmhpakhnclkenaaGreatDoor

namespace Go.Proofs.YtmhpakhnclkenaaGreatDoor
open Go.RowKit Go.Shelf

/-- These trees lie at a, all their memory in blocks from m on, below k. -/
inductive LiesM (m k : Nat) (W : World) : Option Addr → List Tree → Prop
  | nil (a : Option Addr) : LiesM m k W a []
  | row (b off : Nat) (ks : List Tree) (f : Nat → Option Addr × Nat) (hl : ks.length ≤ 1099511627776) (hm : m ≤ b) (hb : b < k)
      (hc : ∀ j t, ks[j]? = some t → ∀ i u, (t.dat.cs (f j).1 t.kids.length (f j).2)[i]? = some u → W.cell? ⟨b, off + j * 7 + i, none⟩ = some u)
      (hk : ∀ j t, ks[j]? = some t → LiesM m k W (f j).1 t.kids) : LiesM m k W (some ⟨b, off, none⟩) ks
theorem LiesM.lies {m k : Nat} {W : World} (hw : k ≤ W.heap.size) {a : Option Addr} {ks : List Tree} (h : LiesM m k W a ks) : Lies W.heap.size W a ks := by
  induction h with
  | nil a => exact .nil a
  | row b off ks f hl hm hb hc hk ih => exact .row b off ks f hl (Nat.lt_of_lt_of_le hb hw) hc ih
theorem LiesM.mono {m n k l : Nat} (hn : n ≤ m) (hk : k ≤ l) {W : World} {a : Option Addr} {ks : List Tree} (h : LiesM m k W a ks) : LiesM n l W a ks := by
  induction h with
  | nil a => exact .nil a
  | row b off ks f hl hm hb hc hk' ih => exact .row b off ks f hl (Nat.le_trans hn hm) (Nat.lt_of_lt_of_le hb hk) hc ih
/-- .. where these blocks are as they were. -/
theorem LiesM.keep {m k : Nat} {A W : World} (hw : ∀ b, m ≤ b → b < k → W.heap[b]? = A.heap[b]?) {a : Option Addr} {ks : List Tree} (h : LiesM m k A a ks) : LiesM m k W a ks := by
  induction h with
  | nil a => exact .nil a
  | row b off ks f hl hm hb hc hk ih =>
    exact .row b off ks f hl hm hb (fun j t hj i u hu => (World.cell?_of_block (w := A) (a := ⟨b, _, none⟩) (hw b hm hb)).trans (hc j t hj i u hu)) ih
theorem LiesM.kb {m k B : Nat} {A W : World} (x : Kb B A W) (hB : B < m) (hk : k ≤ A.heap.size) {a : Option Addr} {ks : List Tree} (h : LiesM m k A a ks) : LiesM m k W a ks :=
  h.keep fun b hm hb => x.block b (by omega) (by omega)
theorem LiesM.bel {m k : Nat} {A W : World} (x : Below A.heap.size A W) (hk : k ≤ A.heap.size) {a : Option Addr} {ks : List Tree} (h : LiesM m k A a ks) : LiesM m k W a ks :=
  h.keep fun b _ hb => x.block b (by omega)
theorem LiesM.grow {m k : Nat} {A C : World} {row : Option Nat} (hg : A.grownBy C row) (hk : k ≤ A.heap.size) (hr : ∀ j, row = some j → j < m ∨ k ≤ j) {a : Option Addr} {ks : List Tree} (h : LiesM m k A a ks) : LiesM m k C a ks :=
  h.keep fun b hm hb => hg.block b (by omega) (fun e => by have := hr b e.symm; omega)
/-- This value is that tree, its memory new from block m on. -/
def TreeAt (m : Nat) (W : World) (v : Value) (t : Tree) : Prop := ∃ a cap, v = t.dat.v a t.kids.length cap ∧ LiesM m W.heap.size W a t.kids

set_option maxHeartbeats 1000000 in
theorem Box.put7' {W : World} {B : Nat} {t : TypeId} {c0 c1 c2 c3 c4 c5 c6 : Value} (h : Box W B t #[c0, c1, c2, c3, c4, c5, c6]) (d0 d1 d2 d3 d4 d5 d6 : Value) :
    Box (((((((W.setCell ⟨B, 0, none⟩ d0).setCell ⟨B, 1, none⟩ d1).setCell ⟨B, 2, none⟩ d2).setCell ⟨B, 3, none⟩ d3).setCell ⟨B, 4, none⟩ d4).setCell ⟨B, 5, none⟩ d5).setCell ⟨B, 6, none⟩ d6) B t #[d0, d1, d2, d3, d4, d5, d6] :=
  ((((((h.set 0 d0).set 1 d1).set 2 d2).set 3 d3).set 4 d4).set 5 d5).set 6 d6
theorem Kb.put7 {B : Nat} {a b : World} (h : Kb B a b) {D : Nat} (hD : a.heap.size ≤ D) (d0 d1 d2 d3 d4 d5 d6 : Value) :
    Kb B a (((((((b.setCell ⟨D, 0, none⟩ d0).setCell ⟨D, 1, none⟩ d1).setCell ⟨D, 2, none⟩ d2).setCell ⟨D, 3, none⟩ d3).setCell ⟨D, 4, none⟩ d4).setCell ⟨D, 5, none⟩ d5).setCell ⟨D, 6, none⟩ d6) :=
  ((((((h.put (p := ⟨D, 0, none⟩) hD d0).put (p := ⟨D, 1, none⟩) hD d1).put (p := ⟨D, 2, none⟩) hD d2).put (p := ⟨D, 3, none⟩) hD d3).put (p := ⟨D, 4, none⟩) hD d4).put (p := ⟨D, 5, none⟩) hD d5).put (p := ⟨D, 6, none⟩) hD d6
theorem Box.other7 {W : World} {B : Nat} {t : TypeId} {cs : Array Value} (h : Box W B t cs) {D : Nat} (hn : D ≠ B) (d0 d1 d2 d3 d4 d5 d6 : Value) :
    Box (((((((W.setCell ⟨D, 0, none⟩ d0).setCell ⟨D, 1, none⟩ d1).setCell ⟨D, 2, none⟩ d2).setCell ⟨D, 3, none⟩ d3).setCell ⟨D, 4, none⟩ d4).setCell ⟨D, 5, none⟩ d5).setCell ⟨D, 6, none⟩ d6) B t cs :=
  ((((((h.other ⟨D, 0, none⟩ d0 hn).other ⟨D, 1, none⟩ d1 hn).other ⟨D, 2, none⟩ d2 hn).other ⟨D, 3, none⟩ d3 hn).other ⟨D, 4, none⟩ d4 hn).other ⟨D, 5, none⟩ d5 hn).other ⟨D, 6, none⟩ d6 hn
theorem RS.put7 {n B : Nat} {A : World} {s : Ps} (h : RS n B A s) {D : Nat} (hD : n ≤ D) (d0 d1 d2 d3 d4 d5 d6 : Value) :
    RS n B (((((((A.setCell ⟨D, 0, none⟩ d0).setCell ⟨D, 1, none⟩ d1).setCell ⟨D, 2, none⟩ d2).setCell ⟨D, 3, none⟩ d3).setCell ⟨D, 4, none⟩ d4).setCell ⟨D, 5, none⟩ d5).setCell ⟨D, 6, none⟩ d6) s :=
  ((((((h.put (p := ⟨D, 0, none⟩) hD d0).put (p := ⟨D, 1, none⟩) hD d1).put (p := ⟨D, 2, none⟩) hD d2).put (p := ⟨D, 3, none⟩) hD d3).put (p := ⟨D, 4, none⟩) hD d4).put (p := ⟨D, 5, none⟩) hD d5).put (p := ⟨D, 6, none⟩) hD d6

end Go.Proofs.YtmhpakhnclkenaaGreatDoor

namespace Go.Proofs.YtmhpakhnclkenaaGreatDoor
open Go.RowKit Go.Shelf

abbrev zeroE : Array Value := #[.int .i64 0, .int .i64 0, .int .i64 0, .string ⟨#[]⟩, .string ⟨#[]⟩, .string ⟨#[]⟩, .slice none 0 0]
/-- One text in a new block. -/
theorem txd_one (W : World) (t : ByteArray) : TxD W.heap.size (W.alloc (.cells #[.string t] 9)) [t] := by
  refine ⟨by simp, fun j u hu => ?_⟩
  obtain rfl : j = 0 := by cases j with | zero => rfl | succ j => simp at hu
  simp at hu; subst hu
  exact (Box.new W 9 #[.string t]).at 0 rfl
theorem txd_two (W : World) (t u : ByteArray) : TxD W.heap.size (W.alloc (.cells #[.string t, .string u] 9)) [t, u] := by
  refine ⟨by simp, fun j x hx => ?_⟩
  match j, hx with
  | 0, hx => simp at hx; subst hx; exact (Box.new W 9 #[.string t, .string u]).at 0 rfl
  | 1, hx => simp at hx; subst hx; exact (Box.new W 9 #[.string t, .string u]).at 1 rfl
/-- must of one text in a new block. -/
theorem must_one (n B : Nat) (s : Ps) (t : ByteArray) (W : World) (h : RS n B W s) :
    Calls Tryz.prog 50 #[.pointer (some ⟨B, 0, none⟩), .slice (some ⟨W.heap.size, 0, none⟩) 1 1] (W.alloc (.cells #[.string t] 9)) fun r W' => r = .returned (.tuple #[]) ∧ RS n B W' (must1 s t) ∧ Kb B W W' := by
  have b : Below W.heap.size W (W.alloc (.cells #[.string t] 9)) := (Below.refl _ _).alloc (Nat.le_refl _) _
  refine (must_c n B s [t] W.heap.size 1 _ (h.up b) (txd_one W t) (by have := h.lt; omega) (by simp)).mono ?_
  rintro r W' ⟨rfl, h1, k1⟩
  exact ⟨rfl, h1, (Kb.of b).trans k1⟩
theorem must_two (n B : Nat) (s : Ps) (t u : ByteArray) (W : World) (h : RS n B W s) :
    Calls Tryz.prog 50 #[.pointer (some ⟨B, 0, none⟩), .slice (some ⟨W.heap.size, 0, none⟩) 2 2] (W.alloc (.cells #[.string t, .string u] 9)) fun r W' => r = .returned (.tuple #[]) ∧ RS n B W' (mustP s [t, u]) ∧ Kb B W W' := by
  have b : Below W.heap.size W (W.alloc (.cells #[.string t, .string u] 9)) := (Below.refl _ _).alloc (Nat.le_refl _) _
  refine (must_c n B s [t, u] W.heap.size 2 _ (h.up b) (txd_two W t u) (by have := h.lt; omega) (by simp)).mono ?_
  rintro r W' ⟨rfl, h1, k1⟩
  exact ⟨rfl, h1, (Kb.of b).trans k1⟩

set_option maxRecDepth 100000 in
set_option maxHeartbeats 2000000 in
theorem field9_c (n B : Nat) (s : Ps) (W : World) (h : RS n B W s) :
    Calls Tryz.prog 79 #[.pointer (some ⟨B, 0, none⟩)] W fun r W' => r = .returned ((fieldP s).1.dat.v none 0 0) ∧ RS n B W' (fieldP s).2 ∧ Kb B W W' := by
  have hBl := h.lt
  have hnW := h.1
  have hne : W.heap.size ≠ B := by omega
  obtain ⟨W0, hW0⟩ : ∃ W0, W0 = W.alloc (.cells zeroE 27) := ⟨_, rfl⟩
  have b0 : Below W.heap.size W W0 := by rw [hW0]; exact (Below.refl _ _).alloc (Nat.le_refl _) _
  have x0 : Box W0 W.heap.size 27 zeroE := by rw [hW0]; exact Box.new _ _ _
  have h0 := h.up b0
  have cA := name_c n B s W0 h0
  unfold fieldP
  change Calls Tryz.prog 79 _ W fun r W' => r = .returned (Dat.v ⟨2, 0, 0, t0, (nameP s).1, (nameP (mustP (nameP s).2 [doB])).1⟩ none 0 0) ∧ RS n B W' (nameP (mustP (nameP s).2 [doB])).2 ∧ Kb B W W'
  generalize nameP s = p at cA ⊢
  obtain ⟨al, s1⟩ := p
  simp only at cA ⊢
  change Calls Tryz.prog 79 _ W fun r W' => r = .returned (Dat.v ⟨2, 0, 0, t0, al, (nameP (must1 s1 doB)).1⟩ none 0 0) ∧ RS n B W' (nameP (must1 s1 doB)).2 ∧ Kb B W W'
  obtain ⟨p2, hp2⟩ : ∃ p2, p2 = nameP (must1 s1 doB) := ⟨_, rfl⟩
  rw [← hp2]
  replace hp2 := hide hp2
  obtain ⟨fd, s3⟩ := p2
  replace cA := hide cA
  go_enter Tryz.func79, Tryz.ntmps79
  go_upto_region 1 with fail
  rw [← hW0]
  clear hW0
  go_wp2_with fail
  refine (unhide cA).mono ?_
  rintro r1 W1 ⟨rfl, h1, k1⟩
  clear cA
  go_wp2_with fail
  refine (must_one n B s1 doB W1 h1).mono ?_
  rintro r2 W2 ⟨rfl, h2, k2⟩
  have cF := name_c n B (must1 s1 doB) W2 h2
  rw [← unhide hp2] at cF
  go_wp2_with fail
  refine cF.mono ?_
  rintro r3 W3 ⟨rfl, h3, k3⟩
  have kk := k1.trans (k2.trans k3)
  have x3 := kk.box x0 hne
  obtain ⟨c0, c1, c2, c3, c4, c5, c6⟩ := x3.seven
  have f0 := x3.frz 0
  have f1 := x3.frz 1
  have f2 := x3.frz 2
  have f3 := x3.frz 3
  have f4 := x3.frz 4
  have f5 := x3.frz 5
  have f6 := x3.frz 6
  have X := hide x3
  go_wp2_with fail
  have k4 := ((Kb.of (B := B) b0).trans kk).put7 (D := W.heap.size) (Nat.le_refl _) (.int .i64 2) (.int .i64 0) (.int .i64 0) (.string ⟨#[]⟩) (.string al.1) (.string fd.1) (.slice none 0 0)
  have h4 := h3.put7 hnW (.int .i64 2) (.int .i64 0) (.int .i64 0) (.string ⟨#[]⟩) (.string al.1) (.string fd.1) (.slice none 0 0)
  obtain ⟨q0, q1, q2, q3, q4, q5, q6⟩ := ((unhide X).put7' (.int .i64 2) (.int .i64 0) (.int .i64 0) (.string ⟨#[]⟩) (.string al.1) (.string fd.1) (.slice none 0 0)).seven
  exact bodyPost_ret (v := Dat.v ⟨2, 0, 0, t0, al, fd⟩ none 0 0) (by simp [results, Tryz.results79, go_sem, q0, q1, q2, q3, q4, q5, q6]) rfl ⟨rfl, h4, k4⟩

end Go.Proofs.YtmhpakhnclkenaaGreatDoor
