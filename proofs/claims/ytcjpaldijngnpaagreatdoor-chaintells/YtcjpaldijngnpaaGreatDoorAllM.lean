/-
  A range over a function whose body never leaves it, where the iterator reads, behind a round, blocks that it has laid since the round ahead of it: the body's invariant tells below which block its own rows lie.
-/
import Derived.Test.YtcjpaldijngnpaaGreatDoorAll
namespace Go.Proofs.YtcjpaldijngnpaaGreatDoor
open Go.RowKit Go.Shelf

/-- The iterator g, from w on: as SeqAll; what it has laid since the last round (from m on) is kept by the next. -/
def SeqAllM {α : Type} (F : Fence) (n : Nat) (P : Program) (g : Nat) (lb : Array Value) (encs : α → Array Value) (Kp : Nat → World → World → Prop) (S : List α → World → Prop) (N : Nat) (w : World) : Prop :=
  ∀ (l : Nat) (J : List α → World → Prop) (W : World), Below w.heap.size w W → AbidesFrom W.heap.size J →
    (∀ pre x W0 W1, J pre W0 → Below W0.heap.size W0 W1 → pre.length < N → YieldAt F (n - 1) P l (encs x) W1 fun e W' => e = .returned (.bool true) ∧ J (pre ++ [x]) W' ∧ Kp W0.heap.size W1 W') →
    J [] W → CallsIn F n P g (#[.func (.yield l) #[] #[]] ++ lb) W fun e W' => (∃ v, e = .returned v) ∧ ∃ xs, S xs W' ∧ J xs W'

/-- How a round may end: it goes on. -/
def goesOnM {α : Type} (B m : Nat) (Kp : Nat → World → World → Prop) (I : Nat → List α → World → Prop) (xs : List α) (W : World) : Exit → Act → World → Prop
  | .normal, _, W' => KeepsFrom B W W' ∧ Kp m W W' ∧ I W'.heap.size xs W'
  | _, _, _ => False

theorem wpIn_rangeFunc_allM {F : Fence} {n : Nat} {P : Program} {α : Type} {g : Operand} {ps : Array Tmp} {assign body : Code} {Q : Exit → Act → World → Prop} {a : Act} {w : World}
    (hro : F.round = none) (h1 : 1 ≤ n) {gf : Nat} {lb : Array Value} (hg : a.eval g = .func (.func gf) #[] lb) (hFg : F.fn gf) (eg : ∀ args w, (callFunc gf args).run P w = .ok (.enter gf args) w)
    {encs : α → Array Value} {Kp : Nat → World → World → Prop} {S : List α → World → Prop} {N : Nat} {w0 : World} (hseq : SeqAllM F (n - 1) P gf lb encs Kp S N w0)
    (hKt : ∀ {m : Nat} {A B C : World}, Kp m A B → Kp m B C → Kp m A C) (hKb : ∀ (m : Nat) (W : World) (l : Nat) (o o' : Obj), w.heap.size ≤ l → l < m → W.heap[l]? = some o → o.isCells = false → o.isWalk = false → Kp m W (W.putObj l o')) (hb0 : Below w0.heap.size w0 w) (hps : ∀ x, (encs x).size = ps.size)
    (I : Nat → List α → World → Prop) (hI : ∀ m, OwnFrom w.heap.size (I m)) (hM : ∀ {m m' pre W}, I m pre W → m ≤ m' → I m' pre W) (hS : OwnFrom w.heap.size S) (h0 : I w.heap.size [] w) (Ax : α → Act → World → Prop) (hAx : ∀ x a', OwnFrom w.heap.size (fun (_ : Unit) W => Ax x a' W))
    (hassign : ∀ (m l : Nat) (pre : List α) (x : α) (W : World) (K : Act → World → Prop), I m pre W → m ≤ W.heap.size → (∀ a' W', KeepsFrom w.heap.size W W' → Kp m W W' → I m pre W' → Ax x a' W' → K a' W') →
      assign.wpIn (F.inRound l) (n - 1 - 1) P (Exit.then K (fun _ _ _ => False)) { tmps := (ps.zip (encs x)).foldl (fun t (p, v) => t.setIfInBounds p v) a.tmps, defers := [] } W)
    (hbody : ∀ (m l : Nat) (pre : List α) (x : α) (a' : Act) (W : World), w.heap.size ≤ l → (∃ r, W.heap[l]? = some (.loop r)) → I m pre W → m ≤ W.heap.size → Ax x a' W → pre.length < N → body.wpIn (F.inRound l) (n - 1 - 1) P (goesOnM w.heap.size m Kp I (pre ++ [x]) W) a' W)
    (hdone : ∀ (D : Nat) (xs : List α) (W : World), w.heap.size ≤ D → S xs W → I W.heap.size xs W → W.heap[D]? = some (.deferred (some [])) → Q .normal { a with defers := { target := .collected D, args := #[] } :: a.defers } W) :
    (Code.rangeFunc g ps assign body).wpIn F n P Q a w := by
  refine wpIn_rangeFunc fun fn hfn => ?_
  rw [hro]
  -- the loop's record, by its state; the block for deferred calls lies ahead of it
  obtain ⟨lp, hlp⟩ : ∃ lp : LoopState → Loop, lp = fun st => { state := st, pending := none, fn, tmps := a.tmps, params := ps, assign, body, defers := w.heap.size } := ⟨_, rfl⟩
  obtain ⟨L, hL⟩ : ∃ L, L = w.heap.size + 1 := ⟨_, rfl⟩
  obtain ⟨V, hV⟩ : ∃ V, V = (w.alloc (.deferred (some []))).alloc (.loop (lp .ready)) := ⟨_, rfl⟩
  have bV : Below w.heap.size w V := by rw [hV]; exact ((Below.refl _ w).alloc (Nat.le_refl _) _).alloc (by simp) _
  have vL : V.heap[L]? = some (.loop (lp .ready)) := by
    have := World.alloc_heap_new (w.alloc (.deferred (some []))) (.loop (lp .ready))
    rwa [World.size_alloc, ← hV, ← hL] at this
  have vD : V.heap[w.heap.size]? = some (.deferred (some [])) := by
    rw [hV]; exact (Below.heap_alloc _ _ _ (by simp)).trans (World.alloc_heap_new w _)
  have vI : I V.heap.size [] V := hM (by rw [hV]; exact (hI _).alloc _ ((hI _).alloc _ h0)) bV.size
  have sV : w.heap.size ≤ V.heap.size := bV.size
  refine ⟨L, [{ target := .collected w.heap.size, args := #[] }], V, { target := .fn (.func gf) lb, args := #[.func (.yield L) #[] #[]] }, V, gf, #[.func (.yield L) #[] #[]] ++ lb, V, ?_, ?_, ?_, ?_, fun _ => h1, ?_⟩
  · rw [hV, hL, hlp]; exact run_enterLoop_outer _ _ _ _ _
  · simp only [resolve, hg]; simp [go_sem]
  · intro f' hf'; simp [Target.leads] at hf'; subst hf'; exact hFg
  · simp [invoke, go_sem, eg]
  refine (hseq L (fun pre W => I W.heap.size pre W ∧ W.heap[L]? = some (.loop (lp .ready)) ∧ W.heap[w.heap.size]? = some (.deferred (some []))) V (hb0.trans (bV.mono hb0.size)) ?_ ?_ ⟨vI, vL, vD⟩).mono ?_
  · -- it abides the iterator
    rintro s A B row ⟨hi, hl, hd⟩ hg' hr
    exact ⟨hM (hI _ s A B row hi hg' (fun r e => by obtain ⟨h2, o, ho, hw⟩ := hr r e; exact ⟨Nat.le_trans sV h2, o, ho, Obj.not_cells_of_walk hw⟩)) hg'.size, (grownBy_keeps hg' (fun r e => (hr r e).2) hl rfl).trans hl, (grownBy_keeps hg' (fun r e => (hr r e).2) hd rfl).trans hd⟩
  · -- a round
    rintro pre x Wz W ⟨hi0, hl0, hd0⟩ hbz hlen
    have hLz : L < Wz.heap.size := (Array.getElem?_eq_some_iff.1 hl0).1
    have hi : I Wz.heap.size pre W := hI _ pre Wz W none hi0 ⟨hbz.os, hbz.tape, hbz.output, hbz.size, fun k hk _ => hbz.block k hk⟩ (fun r e => by cases e)
    have hl := (hbz.block L hLz).trans hl0
    have hd := (hbz.block _ (Array.getElem?_eq_some_iff.1 hd0).1).trans hd0
    have hy := run_yield (P := P) (args := encs x) hl (by rw [hlp]; exact hps x)
    rw [hlp] at hy
    refine ⟨fn, _, assign, body, hy, roundIn_of_wpIn hfn (hassign _ _ pre x W _ hi hbz.size fun a' Wa ka kpa ia ax => ?_)⟩
    clear hy
    have al := ka.same _ _ (by omega) hl rfl
    have ad := ka.same _ _ (Nat.le_refl _) hd rfl
    have ls : L < Wa.heap.size := (Array.getElem?_eq_some_iff.1 al).1
    refine ⟨_, run_beginRound al (by rw [hlp]), ?_⟩
    obtain ⟨Wb, hWb⟩ : ∃ Wb, Wb = Wa.putObj L (.loop { lp .ready with state := .busy }) := ⟨_, rfl⟩
    rw [← hWb]
    have bl : Wb.heap[L]? = some (.loop { lp .ready with state := .busy }) := by rw [hWb]; exact World.putObj_heap_same ls
    have bd : Wb.heap[w.heap.size]? = some (.deferred (some [])) := by rw [hWb]; exact (World.putObj_heap_other (by omega)).trans ad
    have kb : Kp Wz.heap.size Wa Wb := by rw [hWb]; exact hKb _ _ _ _ _ (by omega) hLz al rfl rfl
    refine wpIn_mono (hbody Wz.heap.size L pre x a' Wb (by omega) ⟨_, bl⟩ (by rw [hWb]; exact (hI _).putObj _ ia (by omega) al rfl) (by rw [hWb]; simp; exact Nat.le_trans hbz.size ka.size) (by rw [hWb]; exact (hAx x a').putObj (s := ()) _ ax (by omega) al rfl) hlen) ?_
    rintro e a3 W3 hp
    cases e with
    | normal =>
      obtain ⟨k3, kp3, i3⟩ := hp
      have l3 := k3.same _ _ (by omega) bl rfl
      have d3 := k3.same _ _ (Nat.le_refl _) bd rfl
      have he := run_endRound (P := P) none l3
      refine ⟨_, _, he, rfl, ⟨by rw [World.putObj_size]; exact (hI _).putObj _ i3 (by omega) l3 rfl, ?_, (World.putObj_heap_other (by omega)).trans d3⟩, hKt kpa (hKt (hKt kb kp3) (hKb _ _ _ _ _ (by omega) hLz l3 rfl rfl))⟩
      have := World.putObj_heap_same (w := W3) (r := L) (o := .loop (lp .ready)) (Array.getElem?_eq_some_iff.1 l3).1
      rw [hlp] at this ⊢
      exact this
    | ret => exact hp.elim
    | exit id => exact hp.elim
    | goto t => exact hp.elim
    | panic ch => exact hp.elim
    | outgrown => exact hp.elim
  · -- behind the iterator
    rintro e W2 ⟨⟨v, rfl⟩, xs, hs, hi, hl, hd⟩
    refine ⟨none, _, by have := run_endLoop (P := P) hl (by rw [hlp]; simp); rw [hlp] at this; exact this, ?_⟩
    exact hdone w.heap.size xs _ (Nat.le_refl _) (hS.putObj _ hs (by omega) hl rfl) (by rw [World.putObj_size]; exact (hI _).putObj _ hi (by omega) hl rfl) ((World.putObj_heap_other (by omega)).trans hd)

end Go.Proofs.YtcjpaldijngnpaaGreatDoor
