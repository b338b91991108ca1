/-
  A range over a function whose elements may lie in memory that the iterator made: what each is is told with the world in which it is handed over; the body may leave. On the library's laws of the record and the round.
-/
import Derived.Test.YtfofpenajkaalaaDoorBox
namespace Go.Proofs.YtfofpenajkaalaaDoor
open Go.RowKit Go.Shelf

/-- What is said abides new blocks, and one block turned, from B on, of a sort that is let. -/
def OwnP {β : Type} (ok : Obj → Prop) (B : Nat) (I : β → World → Prop) : Prop :=
  ∀ s W W' row, I s W → W.grownBy W' row → (∀ r, row = some r → B ≤ r ∧ ∃ o : Obj, W.heap[r]? = some o ∧ ok o) → I s W'
theorem OwnP.putObj {β : Type} {ok : Obj → Prop} {B : Nat} {I : β → World → Prop} (h : OwnP ok B I) {s : β} {W : World} {l : Nat} {o : Obj} (o' : Obj) (hs : I s W) (hB : B ≤ l) (hl : W.heap[l]? = some o) (ho : ok o) : I s (W.putObj l o') :=
  h s W _ (some l) hs (grownBy_putObj' W l o') (fun r e => by cases e; exact ⟨hB, o, hl, ho⟩)
theorem OwnP.alloc {β : Type} {ok : Obj → Prop} {B : Nat} {I : β → World → Prop} (h : OwnP ok B I) {s : β} {W : World} (o : Obj) (hs : I s W) : I s (W.alloc o) :=
  h s W _ none hs (World.grownBy_alloc W o none) (fun r e => by cases e)
theorem OwnP.below {β : Type} {ok : Obj → Prop} {B : Nat} {I : β → World → Prop} (h : OwnP ok B I) {s : β} {W W' : World} (hs : I s W) (hb : Below W.heap.size W W') : I s W' :=
  h s W W' none hs ⟨hb.os, hb.tape, hb.output, hb.size, fun k hk _ => hb.block k hk⟩ (fun r e => by cases e)
theorem OwnP.set {β : Type} {ok : Obj → Prop} {B : Nat} {I : β → World → Prop} (h : OwnP ok B I) {s : β} {W : World} {l : Nat} {o : Obj} (v : Value) (hs : I s W) (hB : B ≤ l) (hl : W.heap[l]? = some o) (ho : ok o) : I s (W.setCell ⟨l, 0, none⟩ v) :=
  h s W _ (some l) hs (grownBy_setCell' W l v) (fun r e => by cases e; exact ⟨hB, o, hl, ho⟩)
theorem OwnP.mono {β : Type} {ok : Obj → Prop} {B B' : Nat} (hB : B ≤ B') {I : β → World → Prop} (h : OwnP ok B I) : OwnP ok B' I := fun s W W' row hs hg hr => h s W W' row hs hg (fun r e => by obtain ⟨h1, h2⟩ := hr r e; exact ⟨by omega, h2⟩)

/-- The iterator g, from w on: it asks the round for each element, as it is told of in the world in which it is handed over (El), and ends; or it ends where it was told to. -/
def SeqTold {α : Type} (ok : Obj → Prop) (F : Fence) (n : Nat) (P : Program) (g : Nat) (lb : Array Value) (encs : α → Array Value) (Kp : World → World → Prop) (El : List α → α → World → Prop) (S Sp : List α → Prop) (w : World) : Prop :=
  ∀ (l : Nat) (J Jx : List α → World → Prop) (W : World), Below w.heap.size w W → OwnP ok W.heap.size J → OwnP ok W.heap.size Jx →
    (∀ pre x W1, J pre W1 → El pre x W1 → YieldAt F (n - 1) P l (encs x) W1 fun e W' =>
      KeepsFrom W.heap.size W1 W' ∧ ((e = .returned (.bool true) ∧ J (pre ++ [x]) W' ∧ Kp W1 W') ∨ (e = .returned (.bool false) ∧ Jx (pre ++ [x]) W'))) →
    J [] W → CallsIn F n P g (#[.func (.yield l) #[] #[]] ++ lb) W fun e W' => (∃ v, e = .returned v) ∧ ((∃ xs, S xs ∧ J xs W') ∨ ∃ pre, Sp pre ∧ Jx pre W')

theorem wpIn_rangeFunc_told {F : Fence} {n : Nat} {P : Program} {α : Type} {g : Operand} {ps : Array Tmp} {assign body : Code} {Q : Exit → Act → World → Prop} {a : Act} {w : World}
    {ok : Obj → Prop} (hok : ∀ o : Obj, o.isCells = false → ok o) (hro : F.round = none) (h1 : 1 ≤ n) {gf : Nat} {lb : Array Value} (hg : a.eval g = .func (.func gf) #[] lb) (hFg : F.fn gf) (eg : ∀ args w, (callFunc gf args).run P w = .ok (.enter gf args) w)
    {encs : α → Array Value} {Kp : World → World → Prop} {El : List α → α → World → Prop} {S Sp : List α → Prop} {w0 : World} (hseq : SeqTold ok F (n - 1) P gf lb encs Kp El S Sp w0)
    (hKt : ∀ {A B C : World}, Kp A B → Kp B C → Kp A C) (hKb : ∀ (W : World) (l : Nat) (o o' : Obj), w.heap.size ≤ l → W.heap[l]? = some o → o.isCells = false → o.isWalk = false → Kp W (W.putObj l o')) (hb0 : Below w0.heap.size w0 w) (hps : ∀ x, (encs x).size = ps.size)
    (I : List α → World → Prop) (Ix : Code → List α → World → Prop) (hI : OwnP ok w.heap.size I) (hIx : ∀ c, OwnP ok w.heap.size (Ix c)) (h0 : I [] w) (Ax : List α → α → Act → World → Prop) (hAx : ∀ pre x a', OwnFrom w.heap.size (fun (_ : Unit) W => Ax pre x a' W))
    (hassign : ∀ (l : Nat) (pre : List α) (x : α) (W : World) (K : Act → World → Prop), I pre W → El pre x W → (∀ a' W', KeepsFrom w.heap.size W W' → Kp W W' → I pre W' → Ax pre x a' W' → K a' W') →
      assign.wpIn (F.inRound l) (n - 1 - 1) P (Exit.then K (fun _ _ _ => False)) { tmps := (ps.zip (encs x)).foldl (fun t (p, v) => t.setIfInBounds p v) a.tmps, defers := [] } W)
    (hbody : ∀ (l : Nat) (pre : List α) (x : α) (a' : Act) (W : World), I pre W → Ax pre x a' W → body.wpIn (F.inRound l) (n - 1 - 1) P (ownPostG w.heap.size Kp I Ix (pre ++ [x]) W) a' W)
    (hdone : ∀ (D : Nat) (xs : List α) (W : World), w.heap.size ≤ D → S xs → I xs W → W.heap[D]? = some (.deferred (some [])) → Q .normal { a with defers := { target := .collected D, args := #[] } :: a.defers } W)
    (hstop : ∀ (D : Nat) (c : Code) (pre : List α) (W : World), w.heap.size ≤ D → Sp pre → Ix c pre W → W.heap[D]? = some (.deferred (some [])) → c.wpIn F n P Q { a with defers := { target := .collected D, args := #[] } :: a.defers } W) :
    (Code.rangeFunc g ps assign body).wpIn F n P Q a w := by
  refine wpIn_rangeFunc fun fn hfn => ?_
  rw [hro]
  -- the loop's record, by its state and by how it was left; the block for deferred calls lies ahead of it
  obtain ⟨lp, hlp⟩ : ∃ lp : LoopState → Option Code → Loop, lp = fun st pe => { state := st, pending := pe, fn, tmps := a.tmps, params := ps, assign, body, defers := w.heap.size } := ⟨_, rfl⟩
  obtain ⟨L, hL⟩ : ∃ L, L = w.heap.size + 1 := ⟨_, rfl⟩
  obtain ⟨V, hV⟩ : ∃ V, V = (w.alloc (.deferred (some []))).alloc (.loop (lp .ready none)) := ⟨_, rfl⟩
  have bV : Below w.heap.size w V := by rw [hV]; exact ((Below.refl _ w).alloc (Nat.le_refl _) _).alloc (by simp) _
  have sV : V.heap.size = w.heap.size + 2 := by rw [hV]; simp
  have vL : V.heap[L]? = some (.loop (lp .ready none)) := by
    have := World.alloc_heap_new (w.alloc (.deferred (some []))) (.loop (lp .ready none))
    rwa [World.size_alloc, ← hV, ← hL] at this
  have vD : V.heap[w.heap.size]? = some (.deferred (some [])) := by
    rw [hV]; exact (Below.heap_alloc _ _ _ (by simp)).trans (World.alloc_heap_new w _)
  have vI : I [] V := by rw [hV]; exact hI.alloc _ (hI.alloc _ h0)
  -- what lies ahead of V's end abides what is turned behind it
  have old : ∀ {A B : World} {row : Option Nat} {k : Nat} {o : Obj}, A.grownBy B row → (∀ r, row = some r → V.heap.size ≤ r ∧ ∃ o : Obj, A.heap[r]? = some o ∧ ok o) → k ≤ L → A.heap[k]? = some o → B.heap[k]? = some o := by
    intro A B row k o hg' hr hk ho
    refine (hg'.block k (Array.getElem?_eq_some_iff.1 ho).1 (fun e => ?_)).trans ho
    have := (hr k e.symm).1
    omega
  refine ⟨L, [{ target := .collected w.heap.size, args := #[] }], V, { target := .fn (.func gf) lb, args := #[.func (.yield L) #[] #[]] }, V, gf, #[.func (.yield L) #[] #[]] ++ lb, V, ?_, ?_, ?_, ?_, fun _ => h1, ?_⟩
  · rw [hV, hL, hlp]; exact run_enterLoop_outer _ _ _ _ _
  · simp only [resolve, hg]; simp [go_sem]
  · intro f' hf'; simp [Target.leads] at hf'; subst hf'; exact hFg
  · simp [invoke, go_sem, eg]
  refine (hseq L (fun pre W => I pre W ∧ W.heap[L]? = some (.loop (lp .ready none)) ∧ W.heap[w.heap.size]? = some (.deferred (some [])))
    (fun pre W => ∃ c, Ix c pre W ∧ W.heap[L]? = some (.loop (lp .done (some c))) ∧ W.heap[w.heap.size]? = some (.deferred (some []))) V (hb0.trans (bV.mono hb0.size)) ?_ ?_ ?_ ⟨vI, vL, vD⟩).mono ?_
  · rintro s A B row ⟨hi, hl, hd⟩ hg' hr
    exact ⟨hI s A B row hi hg' (fun r e => by obtain ⟨h2, h3⟩ := hr r e; exact ⟨by omega, h3⟩), old hg' hr (Nat.le_refl _) hl, old hg' hr (by omega) hd⟩
  · rintro s A B row ⟨c, hi, hl, hd⟩ hg' hr
    exact ⟨c, hIx c s A B row hi hg' (fun r e => by obtain ⟨h2, h3⟩ := hr r e; exact ⟨by omega, h3⟩), old hg' hr (Nat.le_refl _) hl, old hg' hr (by omega) hd⟩
  · -- a round
    rintro pre x W ⟨hi, hl, hd⟩ hel
    have hy := run_yield (P := P) (args := encs x) hl (by rw [hlp]; exact hps x)
    rw [hlp] at hy
    refine ⟨fn, _, assign, body, hy, roundIn_of_wpIn hfn (hassign _ pre x W _ hi hel fun a' Wa ka kpa ia ax => ?_)⟩
    clear hy
    have al := ka.same _ _ (by omega) hl rfl
    have ad := ka.same _ _ (Nat.le_refl _) hd rfl
    have ls : L < Wa.heap.size := (Array.getElem?_eq_some_iff.1 al).1
    refine ⟨_, run_beginRound al (by rw [hlp]), ?_⟩
    obtain ⟨Wb, hWb⟩ : ∃ Wb, Wb = Wa.putObj L (.loop { lp .ready none with state := .busy }) := ⟨_, rfl⟩
    rw [← hWb]
    have bl : Wb.heap[L]? = some (.loop { lp .ready none with state := .busy }) := by rw [hWb]; exact World.putObj_heap_same ls
    have bd : Wb.heap[w.heap.size]? = some (.deferred (some [])) := by rw [hWb]; exact (World.putObj_heap_other (by omega)).trans ad
    have kb : Kp Wa Wb := by rw [hWb]; exact hKb _ _ _ _ (by omega) al rfl rfl
    refine wpIn_mono (hbody L pre x a' Wb (by rw [hWb]; exact hI.putObj _ ia (by omega) al (hok _ rfl)) (by rw [hWb]; exact (hAx pre x a').putObj (s := ()) _ ax (by omega) al rfl)) ?_
    -- how the round ends
    have fin : ∀ (j : Option Code) (W3 : World), KeepsFrom w.heap.size Wb W3 → ∃ W4, W4 = W3.putObj L (.loop (lp (if j.isNone then .ready else .done) j)) ∧
        (Instr.endRound L j).run P W3 = .ok (.bool j.isNone) W4 ∧ W3.heap[L]? = some (.loop { lp .ready none with state := .busy }) ∧ W4.heap[L]? = some (.loop (lp (if j.isNone then .ready else .done) j)) ∧ W4.heap[w.heap.size]? = some (.deferred (some [])) := fun j W3 k3 => by
      have l3 := k3.same _ _ (by omega) bl rfl
      have d3 := k3.same _ _ (Nat.le_refl _) bd rfl
      have he := run_endRound (P := P) j l3
      refine ⟨_, rfl, ?_, l3, World.putObj_heap_same (Array.getElem?_eq_some_iff.1 l3).1, (World.putObj_heap_other (by omega)).trans d3⟩
      rw [hlp] at he ⊢
      exact he
    -- what is no cells and lies behind the record lies as it lay
    have kall : ∀ (W3 : World) (o' : Obj), KeepsFrom w.heap.size Wb W3 → KeepsFrom V.heap.size W (W3.putObj L o') := fun W3 o' k3 => by
      have ka' : KeepsFrom V.heap.size W Wa := ⟨ka.size, fun k o hk h ho => ka.same k o (by omega) h ho⟩
      have kb' : KeepsFrom V.heap.size Wa Wb := by rw [hWb]; exact KeepsFrom.of_grownBy (grownBy_putObj' Wa L _) (fun j e => by cases e; omega)
      have k3' : KeepsFrom V.heap.size Wb W3 := ⟨k3.size, fun k o hk h ho => k3.same k o (by omega) h ho⟩
      exact ka'.trans (kb'.trans (k3'.trans (KeepsFrom.of_grownBy (grownBy_putObj' W3 L o') (fun j e => by cases e; omega))))
    rintro e a3 W3 hp
    cases e with
    | normal =>
      obtain ⟨k3, kp3, i3⟩ := hp
      obtain ⟨W4, e4, he, l3, l4, d4⟩ := fin none W3 k3
      refine ⟨_, _, he, by rw [e4]; exact kall _ _ k3, .inl ⟨rfl, ⟨?_, l4, d4⟩, ?_⟩⟩
      · rw [e4]; exact hI.putObj _ i3 (by omega) l3 (hok _ rfl)
      · rw [e4]; exact hKt kpa (hKt (hKt kb kp3) (hKb _ _ _ _ (by omega) l3 rfl rfl))
    | ret =>
      obtain ⟨k3, i3⟩ := hp
      obtain ⟨W4, e4, he, l3, l4, d4⟩ := fin (some .ret) W3 k3
      exact ⟨_, _, he, by rw [e4]; exact kall _ _ k3, .inr ⟨rfl, .ret, by rw [e4]; exact (hIx _).putObj _ i3 (by omega) l3 (hok _ rfl), l4, d4⟩⟩
    | exit id =>
      obtain ⟨k3, i3⟩ := hp
      obtain ⟨W4, e4, he, l3, l4, d4⟩ := fin (some (.exit id)) W3 k3
      exact ⟨_, _, he, by rw [e4]; exact kall _ _ k3, .inr ⟨rfl, .exit id, by rw [e4]; exact (hIx _).putObj _ i3 (by omega) l3 (hok _ rfl), l4, d4⟩⟩
    | goto t =>
      obtain ⟨k3, i3⟩ := hp
      obtain ⟨W4, e4, he, l3, l4, d4⟩ := fin (some (.goto t)) W3 k3
      exact ⟨_, _, he, by rw [e4]; exact kall _ _ k3, .inr ⟨rfl, .goto t, by rw [e4]; exact (hIx _).putObj _ i3 (by omega) l3 (hok _ rfl), l4, d4⟩⟩
    | panic ch => exact hp.elim
    | outgrown => exact hp.elim
  · -- behind the iterator
    rintro e W2 ⟨⟨v, rfl⟩, ⟨xs, hs, hi, hl, hd⟩ | ⟨pre, hs, c, hi, hl, hd⟩⟩
    · refine ⟨none, _, by have := run_endLoop (P := P) hl (by rw [hlp]; simp); rw [hlp] at this; exact this, ?_⟩
      exact hdone w.heap.size xs _ (Nat.le_refl _) hs (hI.putObj _ hi (by omega) hl (hok _ rfl)) ((World.putObj_heap_other (by omega)).trans hd)
    · refine ⟨some c, _, by have := run_endLoop (P := P) hl (by rw [hlp]; simp); rw [hlp] at this; exact this, ?_⟩
      exact hstop w.heap.size c pre _ (Nat.le_refl _) hs ((hIx c).putObj _ hi (by omega) hl (hok _ rfl)) ((World.putObj_heap_other (by omega)).trans hd)

end Go.Proofs.YtfofpenajkaalaaDoor
