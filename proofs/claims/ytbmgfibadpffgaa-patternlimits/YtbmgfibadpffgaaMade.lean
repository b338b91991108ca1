/-
  What the law's lit, field and two make; the condition and the pattern of known, and what is so of them.
-/
import Derived.Test.YtbmgfibadpffgaaPat
namespace Go.Proofs.Ytbmgfibadpffgaa
open Go.RowKit Go.Shelf

abbrev tx0 : Txt := ⟨⟨#[]⟩, by decide⟩
abbrev tx1 (c : UInt8) : Txt := ⟨⟨#[c]⟩, show (1 : Nat) ≤ maxLen by decide⟩
def litD (n : Int) : Dat := ⟨1, 1, n, tx0, tx0, tx0⟩
def fldD (a f : Txt) : Dat := ⟨2, 0, 0, tx0, a, f⟩
def opD (op : Int) : Dat := ⟨op, 0, 0, tx0, tx0, tx0⟩
def litT (n : Int) : Tree := .mk (litD n) []
def fldT (a f : Txt) : Tree := .mk (fldD a f) []
def twoT (op : Int) (x y : Tree) : Tree := .mk (opD op) [x, y]

def xK : Tree := twoT 8 (fldT (tx1 97) (tx1 120)) (litT 3)
def eK : Em := ⟨tx1 97, [tx1 116], false, false, xK⟩
def pK : Pt := ⟨[eK], 5, tx0, false⟩
def p0 : Pt := ⟨[], 0, tx0, false⟩

theorem isT_K : isT xK = true := by kernel_rfl
theorem isT_0 : isT (.mk d0 []) = false := by kernel_rfl
theorem depth_K : depthT xK = 2 := by kernel_rfl
theorem nodes_K : nodesN xK = 3 := by kernel_rfl
theorem same_K : sameT xK xK = true := by kernel_rfl
theorem same_L : sameT xK (litT 3) = false := by kernel_rfl
theorem pat_K : patB pK = true := by kernel_rfl
theorem pat_0 : patB p0 = false := by kernel_rfl

theorem lit_c (n : Int) (w : World) : Calls Try.prog 8 #[.int .i64 n] w fun r w' => r = .returned ((litD n).v none 0 0) ∧ Below w.heap.size w w' := by
  go_enter Try.func8, Try.ntmps8
  go_wp2
  refine bodyPost_ret (v := (litD n).v none 0 0) (by simp [results, Try.results8, go_sem, litD]) rfl ⟨rfl, ?_⟩
  exact (Below.refl _ _).alloc (Nat.le_refl _) _
theorem field_c (a f : Txt) (w : World) : Calls Try.prog 15 #[.string a.1, .string f.1] w fun r w' => r = .returned ((fldD a f).v none 0 0) ∧ Below w.heap.size w w' := by
  go_enter Try.func15, Try.ntmps15
  go_wp2
  refine bodyPost_ret (v := (fldD a f).v none 0 0) (by simp [results, Try.results15, go_sem, fldD]) rfl ⟨rfl, ?_⟩
  exact (Below.refl _ _).alloc (Nat.le_refl _) _

/-- Nodes that lie flat are trees that lie, where their kids do. -/
theorem lies_of_nds {n₀ : Nat} {W : World} {b off : Nat} {ks : List Tree} (l : List Nd) (hl : l.length = ks.length) (h40 : ks.length ≤ 1099511627776) (hb : b < n₀)
    (hc : ∀ (j : Nat) x, l[j]? = some x → ∀ (i : Nat) u, x.cs[i]? = some u → W.cell? ⟨b, off + j * 7 + i, none⟩ = some u)
    (hk : ∀ (j : Nat) x t, l[j]? = some x → ks[j]? = some t → x.d = t.dat ∧ x.m = t.kids.length ∧ Lies n₀ W x.a t.kids) : Lies n₀ W (some ⟨b, off, none⟩) ks := by
  have hx : ∀ (j : Nat) t, ks[j]? = some t → ∃ x, l[j]? = some x := fun j t ht => by
    have := (List.getElem?_eq_some_iff.1 ht).1
    exact ⟨_, List.getElem?_eq_getElem (by omega)⟩
  refine .row b off ks (fun j => match l[j]? with | none => (none, 0) | some x => (x.a, x.cap)) h40 hb (fun j t ht i u hu => ?_) (fun j t ht => ?_)
  · obtain ⟨x, hx⟩ := hx j t ht
    obtain ⟨h1, h2, h3⟩ := hk j x t hx ht
    simp only [hx] at hu
    refine hc j x hx i u ?_
    rw [← h1, ← h2] at hu
    exact hu
  · obtain ⟨x, hx⟩ := hx j t ht
    simp only [hx]
    exact (hk j x t hx ht).2.2
theorem nds_box {W : World} {B : Nat} {t : TypeId} {l : List Nd} {cs : Array Value} (h : Box W B t cs) (hc : cs.toList = newsN l) : ∀ (j : Nat) x, l[j]? = some x → ∀ (i : Nat) u, x.cs[i]? = some u → W.cell? ⟨B, 0 + j * 7 + i, none⟩ = some u := fun j x hx i u hu => by
  have h7 : i < 7 := by have := (Array.getElem?_eq_some_iff.1 hu).1; simpa using this
  refine h.at _ ?_
  rw [← Array.getElem?_toList, hc, Nat.zero_add, newsN_at l j x hx i h7]
  exact hu

set_option maxHeartbeats 1000000 in
theorem two_c (op : Int) (d e : Dat) (a a' : Option Addr) (ks ls : List Tree) (cap cap' : Nat) (w : World) (hL : Lies w.heap.size w a ks) (hL' : Lies w.heap.size w a' ls) :
    Calls Try.prog 9 #[.int .i64 op, d.v a ks.length cap, e.v a' ls.length cap'] w fun r w' => (∃ b, r = .returned ((opD op).v b 2 2) ∧ Lies w'.heap.size w' b [.mk d ks, .mk e ls]) ∧ Below w.heap.size w w' := by
  obtain ⟨W, hW⟩ : ∃ W, W = (((w.alloc (.cells (d.cs a ks.length cap) 27)).alloc (.cells (e.cs a' ls.length cap') 27)).alloc (.cells ((opD op).cs (some ⟨w.heap.size + 1 + 1 + 1, 0, none⟩) 2 2) 27)).alloc (.cells #[.int .i64 d.op, .int .i64 d.k, .int .i64 d.n, .string d.s.1, .string d.al.1, .string d.fd.1, .slice a ks.length cap, .int .i64 e.op, .int .i64 e.k, .int .i64 e.n, .string e.s.1, .string e.al.1, .string e.fd.1, .slice a' ls.length cap'] 27) := ⟨_, rfl⟩
  have bW : Below w.heap.size w W := by rw [hW]; exact ((((Below.refl _ _).alloc (Nat.le_refl _) _).alloc (by simp) _).alloc (by simp; omega) _).alloc (by simp; omega) _
  have xb : Box W (w.heap.size + 1 + 1 + 1) 27 #[.int .i64 d.op, .int .i64 d.k, .int .i64 d.n, .string d.s.1, .string d.al.1, .string d.fd.1, .slice a ks.length cap, .int .i64 e.op, .int .i64 e.k, .int .i64 e.n, .string e.s.1, .string e.al.1, .string e.fd.1, .slice a' ls.length cap'] := by
    have := Box.new (((w.alloc (.cells (d.cs a ks.length cap) 27)).alloc (.cells (e.cs a' ls.length cap') 27)).alloc (.cells ((opD op).cs (some ⟨w.heap.size + 1 + 1 + 1, 0, none⟩) 2 2) 27)) 27 #[.int .i64 d.op, .int .i64 d.k, .int .i64 d.n, .string d.s.1, .string d.al.1, .string d.fd.1, .slice a ks.length cap, .int .i64 e.op, .int .i64 e.k, .int .i64 e.n, .string e.s.1, .string e.al.1, .string e.fd.1, .slice a' ls.length cap']
    simp only [World.size_alloc] at this
    rw [hW]; exact this
  have hLL : Lies W.heap.size W (some ⟨w.heap.size + 1 + 1 + 1, 0, none⟩) [.mk d ks, .mk e ls] := by
    refine lies_of_nds [⟨d, a, ks.length, cap⟩, ⟨e, a', ls.length, cap'⟩] rfl (by simp) xb.lt (nds_box xb (by simp [newsN])) (fun j x t hx ht => ?_)
    match j with
    | 0 => simp at hx ht; subst hx ht; exact ⟨rfl, rfl, hL.on bW⟩
    | 1 => simp at hx ht; subst hx ht; exact ⟨rfl, rfl, hL'.on bW⟩
    | j + 2 => simp at hx
  dsimp only [opD, Dat.cs] at hW
  replace hL := hide hL
  replace hL' := hide hL'
  replace hLL := hide hLL
  replace hW := hide hW
  go_enter Try.func9, Try.ntmps9
  go_wp2_with fail
  have xr : Box W (w.heap.size + 1 + 1) 27 ((opD op).cs (some ⟨w.heap.size + 1 + 1 + 1, 0, none⟩) 2 2) := by
    have := (Box.new ((w.alloc (.cells (d.cs a ks.length cap) 27)).alloc (.cells (e.cs a' ls.length cap') 27)) 27 ((opD op).cs (some ⟨w.heap.size + 1 + 1 + 1, 0, none⟩) 2 2)).alloc (.cells #[.int .i64 d.op, .int .i64 d.k, .int .i64 d.n, .string d.s.1, .string d.al.1, .string d.fd.1, .slice a ks.length cap, .int .i64 e.op, .int .i64 e.k, .int .i64 e.n, .string e.s.1, .string e.al.1, .string e.fd.1, .slice a' ls.length cap'] 27)
    simp only [World.size_alloc] at this
    rw [unhide hW]; exact this
  rw [← unhide hW]
  obtain ⟨r0, r1, r2, r3, r4, r5, r6⟩ := xr.seven
  simp only [opD] at r0 r1 r2 r3 r4 r5 r6
  refine bodyPost_ret (v := (opD op).v (some ⟨w.heap.size + 1 + 1 + 1, 0, none⟩) 2 2) (by simp [results, Try.results9, go_sem, opD, r0, r1, r2, r3, r4, r5, r6]) rfl ⟨⟨_, rfl, unhide hLL⟩, bW⟩

end Go.Proofs.Ytbmgfibadpffgaa
