/-
  The pieces of texts of conditions and patterns, as plain lists.
-/
import Derived.Test.YtmhpakhnclkenaaGreatDoorLiteral
import Derived.Test.YtmhpakhnclkenaaGreatDoorPat
import Derived.Lib.Join
namespace Go.Proofs.YtmhpakhnclkenaaGreatDoor
open Go.RowKit Go.Shelf

abbrev notB : ByteArray := ⟨#[40, 78, 79, 84, 32]⟩

abbrev opB : ByteArray := ⟨#[40]⟩

abbrev clB : ByteArray := ⟨#[41]⟩

abbrev blB : ByteArray := ⟨#[32]⟩

abbrev dotB : ByteArray := ⟨#[46]⟩

/-- The sign of an Op. -/
def sgB (q : Nat) : ByteArray := ⟨(shSigns[q]?.getD []).toArray⟩

theorem sgB_eq (q : Nat) (h : q < shSigns.length) : (⟨shSigns[q].toArray⟩ : ByteArray) = sgB q := by simp [sgB, h]

/-- The pieces of a node, those of its kids at hand. -/
def condN (d : Dat) (l : List (List ByteArray)) : List ByteArray :=
  if d.op = 1 then litP d.k d.n d.s.1
  else if d.op = 2 then [d.al.1, dotB, d.fd.1]
  else if d.op = 12 then [[notB], l.getD 0 [], [clB]].flatten
  else [[opB], l.getD 0 [], [blB, sgB d.op.toNat, blB], l.getD 1 [], [clB]].flatten
mutual

/-- The pieces of a condition's text. -/
def condP : Tree → List ByteArray
  | .mk d ks => condN d (condL ks)

def condL : List Tree → List (List ByteArray)
  | [] => []
  | t :: ts => condP t :: condL ts
end

/-- Every node is as it may be, its number one of 64 bits. -/
inductive Snd : Tree → Prop
  | mk (d : Dat) (ks : List Tree) (hs : soundB d ks.length = true) (h0 : -9223372036854775808 ≤ d.n) (h1 : d.n ≤ 9223372036854775807) (hk : ∀ (j : Nat) t, ks[j]? = some t → Snd t) : Snd (.mk d ks)

theorem sound_op {d : Dat} {m : Nat} (h : soundB d m = true) : 1 ≤ d.op ∧ d.op ≤ 12 ∧ m = kidsN d.op ∧ (d.op = 1 → isB d.k d.n d.s.1 = true) := by
  simp only [soundB, Bool.and_eq_true, decide_eq_true_eq] at h
  obtain ⟨⟨⟨h1, h2⟩, h3⟩, h4⟩ := h
  refine ⟨h1, h2, h3, fun e => ?_⟩
  rw [if_pos e, Bool.and_eq_true] at h4
  exact h4.2

theorem isB_size {k n : Int} {s : ByteArray} (h : isB k n s = true) (hk : k = 2) : s.size ≤ 16 := by
  subst hk
  simp only [isB, isTextB] at h
  simp at h
  exact h.2.1

abbrev obB : ByteArray := ⟨#[91]⟩

abbrev cbB : ByteArray := ⟨#[93]⟩

abbrev exB : ByteArray := ⟨#[33]⟩

abbrev coB : ByteArray := ⟨#[58]⟩

abbrev barB : ByteArray := ⟨#[124]⟩

abbrev plB : ByteArray := ⟨#[43]⟩

/-- The pieces of what an element asks for. -/
def askP (t : Tree) : List ByteArray := if t.dat.op = 0 then [] else [[obB], condP t, [cbB]].flatten

/-- The types of an element, as its text has them. -/
def joinB (ts : List Txt) : ByteArray := ⟨(Lib.join (ts.map fun t => t.1.data.toList) barB.data.toList).toArray⟩

def elemP (e : Em) : List ByteArray := [if e.nt then [exB] else [], [e.al.1, coB, joinB e.ts], if e.pl then [plB] else [], askP e.t].flatten

theorem join_len (ts : List Txt) (h3 : ts.length ≤ 3) (h8 : ∀ t ∈ ts, t.1.size ≤ 8) : (Lib.join (ts.map fun t => t.1.data.toList) barB.data.toList).length ≤ 100 := by
  have hz : ∀ t : Txt, t.1.data.toList.length = t.1.size := fun t => Array.length_toList ..
  match ts, h3, h8 with
  | [], _, _ => simp [Lib.join, List.intercalate]
  | [a], _, h => have := h a (by simp); have := hz a; simp [Lib.join, List.intercalate] at *; omega
  | [a, b], _, h => have := h a (by simp); have := h b (by simp); have := hz a; have := hz b; simp [Lib.join, List.intercalate] at *; omega
  | [a, b, c], _, h => have := h a (by simp); have := h b (by simp); have := h c (by simp); have := hz a; have := hz b; have := hz c; simp [Lib.join, List.intercalate] at *; omega

/-- An element is as it may be, as far as its text wants it. -/
def EGood (e : Em) : Prop := (e.t.dat.op = 0 ∨ Snd e.t) ∧ (1 ≤ e.ts.length ∧ e.ts.length ≤ 3) ∧ ∀ t ∈ e.ts, t.1.size ≤ 8

abbrev csB : ByteArray := ⟨#[44, 32]⟩

/-- The parts of a row of elements: what is ahead of each, and its own. -/
def rowS (es : List Em) : List (List ByteArray) := (es.zipIdx).flatMap fun x => [if decide ((0 : Int) < x.2) then [csB] else [], elemP x.1]

theorem rowS_snoc (es : List Em) (e : Em) : rowS (es ++ [e]) = rowS es ++ [if decide ((0 : Int) < es.length) then [csB] else [], elemP e] := by
  simp [rowS, List.zipIdx_append]

theorem rowS_len (es : List Em) : (rowS es).length = 2 * es.length := by
  have h : ∀ (l : List Em) (k : Nat), ((l.zipIdx k).flatMap fun x => [if decide ((0 : Int) < x.2) then [csB] else [], elemP x.1]).length = 2 * l.length := by
    intro l
    induction l with
    | nil => intro k; rfl
    | cons a l ih => intro k; rw [List.zipIdx_cons, List.flatMap_cons, List.length_append, ih]; simp; omega
  exact h es 0

abbrev seqB : ByteArray := ⟨#[83, 69, 81, 40]⟩

abbrev wiB : ByteArray := ⟨#[41, 32, 87, 73, 84, 72, 73, 78, 32]⟩

abbrev byB : ByteArray := ⟨#[32, 66, 89, 32]⟩

abbrev anyB : ByteArray := ⟨#[32, 65, 78, 89]⟩

def itoaB (n : Int) : ByteArray := ⟨(Lib.itoa n).toArray⟩

/-- The pieces of a pattern's text. -/
def patP (q : Pt) : List ByteArray := [[seqB], (rowS q.es).flatten, [wiB, itoaB q.wi], if !(q.nm.1.toList == []) then [byB, q.nm.1] else [], if q.any then [anyB] else []].flatten

/-- A pattern is as it may be, as far as its text wants it. -/
def PGood (q : Pt) : Prop := (∀ e ∈ q.es, EGood e) ∧ q.es.length ≤ 5 ∧ 0 ≤ q.wi ∧ q.wi ≤ 1000

end Go.Proofs.YtmhpakhnclkenaaGreatDoor
