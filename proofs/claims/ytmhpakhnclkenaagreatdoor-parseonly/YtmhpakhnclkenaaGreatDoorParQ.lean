/-
  A range over a function whose rounds go on as long as the reader finds the sign: what the iterator (parted) does, and the loop over it.
  What the iterator of the reader's parted does: a round for the first part, and one for another one as long as the sign stands between.
  The rounds of a row of parts, one by one; what abides a turn of what is no cells.
-/
import Derived.Test.YtmhpakhnclkenaaGreatDoorParJ
import Derived.Test.YtmhpakhnclkenaaGreatDoorPlain
namespace Go.Proofs.YtmhpakhnclkenaaGreatDoor
open Go.RowKit Go.Shelf

attribute [local go_sem] Oper.semAt_some

/-- The iterator: m rounds, each from J j to E j; what abides a turn of the block B and new blocks (R) abides the whole. -/
def SeqR (B : Nat) (F : Fence) (n : Nat) (P : Program) (g : Nat) (lb : Array Value) (m : Nat) (J E : Nat → World → Prop) (Fin : World → Prop) : Prop :=
  ∀ (l : Nat) (R : World → Prop) (W : World), (∀ A A', R A → Kb B A A' → R A') →
    (∀ j W1, j < m → J j W1 → R W1 → YieldAt F (n - 1) P l #[] W1 fun e W' => e = .returned (.bool true) ∧ E j W' ∧ R W') →
    J 0 W → R W → CallsIn F n P g (#[.func (.yield l) #[] #[]] ++ lb) W fun e W' => (∃ v, e = .returned v) ∧ Fin W' ∧ R W'

/-- How a round of the loop ends. -/
def roundPost (D : Nat) (E : World → Prop) (W : World) : Exit → Act → World → Prop
  | .normal, _, W' => KeepsFrom D W W' ∧ E W'
  | _, _, _ => False

theorem wpIn_rangeFunc_rounds {F : Fence} {n : Nat} {P : Program} {g : Operand} {assign body : Code} {Q : Exit → Act → World → Prop} {a : Act} {w : World}
    (hro : F.round = none) (h1 : 1 ≤ n) {gf : Nat} {lb : Array Value} (hg : a.eval g = .func (.func gf) #[] lb) (hFg : F.fn gf) (eg : ∀ args w, (callFunc gf args).run P w = .ok (.enter gf args) w)
    {B : Nat} (hB : B < w.heap.size) {m : Nat} {J E : Nat → World → Prop} {Fin : World → Prop} (hseq : SeqR B F (n - 1) P gf lb m J E Fin)
    (hJ : ∀ j, OwnP okN w.heap.size (fun (_ : Unit) => J j)) (hE : ∀ j, OwnP okN w.heap.size (fun (_ : Unit) => E j)) (hF : OwnP okN w.heap.size (fun (_ : Unit) => Fin)) (h0 : J 0 w)
    (hassign : ∀ (l : Nat) (j : Nat) (W : World) (K : Act → World → Prop), j < m → J j W → K { tmps := a.tmps, defers := [] } W →
      assign.wpIn (F.inRound l) (n - 1 - 1) P (Exit.then K (fun _ _ _ => False)) { tmps := a.tmps, defers := [] } W)
    (hbody : ∀ (l : Nat) (j : Nat) (W : World), j < m → J j W → body.wpIn (F.inRound l) (n - 1 - 1) P (roundPost w.heap.size (E j) W) { tmps := a.tmps, defers := [] } W)
    (hdone : ∀ (D : Nat) (W : World), w.heap.size ≤ D → Fin W → W.heap[D]? = some (.deferred (some [])) → Q .normal { a with defers := { target := .collected D, args := #[] } :: a.defers } W) :
    (Code.rangeFunc g #[] assign body).wpIn F n P Q a w := by
  refine wpIn_rangeFunc fun fn hfn => ?_
  rw [hro]
  obtain ⟨lp, hlp⟩ : ∃ lp : LoopState → Option Code → Loop, lp = fun st pe => { state := st, pending := pe, fn, tmps := a.tmps, params := #[], assign, body, defers := w.heap.size } := ⟨_, rfl⟩
  obtain ⟨L, hL⟩ : ∃ L, L = w.heap.size + 1 := ⟨_, rfl⟩
  obtain ⟨V, hV⟩ : ∃ V, V = (w.alloc (.deferred (some []))).alloc (.loop (lp .ready none)) := ⟨_, rfl⟩
  have bV : Below w.heap.size w V := by rw [hV]; exact ((Below.refl _ w).alloc (Nat.le_refl _) _).alloc (by simp) _
  have sV : V.heap.size = w.heap.size + 2 := by rw [hV]; simp
  have vL : V.heap[L]? = some (.loop (lp .ready none)) := by
    have := World.alloc_heap_new (w.alloc (.deferred (some []))) (.loop (lp .ready none))
    rwa [World.size_alloc, ← hV, ← hL] at this
  have vD : V.heap[w.heap.size]? = some (.deferred (some [])) := by
    rw [hV]; exact (Below.heap_alloc _ _ _ (by simp)).trans (World.alloc_heap_new w _)
  have vJ : J 0 V := by rw [hV]; exact (hJ 0).alloc (s := ()) _ ((hJ 0).alloc (s := ()) _ h0)
  refine ⟨L, [{ target := .collected w.heap.size, args := #[] }], V, { target := .fn (.func gf) lb, args := #[.func (.yield L) #[] #[]] }, V, gf, #[.func (.yield L) #[] #[]] ++ lb, V, ?_, ?_, ?_, ?_, fun _ => h1, ?_⟩
  · rw [hV, hL, hlp]; exact run_enterLoop_outer _ _ _ _ _
  · simp only [resolve, hg]; simp [go_sem]
  · intro f' hf'; simp [Target.leads] at hf'; subst hf'; exact hFg
  · simp [invoke, go_sem, eg]
  refine (hseq L (fun W => W.heap[L]? = some (.loop (lp .ready none)) ∧ W.heap[w.heap.size]? = some (.deferred (some []))) V ?_ ?_ vJ ⟨vL, vD⟩).mono ?_
  · rintro A A' ⟨hl, hd⟩ hk
    exact ⟨(hk.block L (Array.getElem?_eq_some_iff.1 hl).1 (by omega)).trans hl, (hk.block _ (Array.getElem?_eq_some_iff.1 hd).1 (by omega)).trans hd⟩
  · -- a round
    rintro j W hjm hi ⟨hl, hd⟩
    have hy : (Instr.yield L #[]).run P W = .ok (.round L fn a.tmps assign body) W := by
      have := run_yield (P := P) (args := #[]) hl (by rw [hlp]; rfl)
      rw [hlp] at this
      simpa using this
    refine ⟨fn, _, assign, body, hy, roundIn_of_wpIn hfn (hassign _ j W _ hjm hi ?_)⟩
    clear hy
    have ls : L < W.heap.size := (Array.getElem?_eq_some_iff.1 hl).1
    refine ⟨_, run_beginRound hl (by rw [hlp]), ?_⟩
    obtain ⟨Wb, hWb⟩ : ∃ Wb, Wb = W.putObj L (.loop { lp .ready none with state := .busy }) := ⟨_, rfl⟩
    rw [← hWb]
    have bl : Wb.heap[L]? = some (.loop { lp .ready none with state := .busy }) := by rw [hWb]; exact World.putObj_heap_same ls
    have bd : Wb.heap[w.heap.size]? = some (.deferred (some [])) := by rw [hWb]; exact (World.putObj_heap_other (by omega)).trans hd
    refine wpIn_mono (hbody L j Wb hjm (by rw [hWb]; exact (hJ j).putObj (s := ()) _ hi (by omega) hl rfl)) ?_
    rintro e a3 W3 hp
    cases e with
    | normal =>
      obtain ⟨k3, i3⟩ := hp
      have l3 := k3.same _ _ (by omega) bl rfl
      have d3 := k3.same _ _ (Nat.le_refl _) bd rfl
      obtain ⟨W4, e4, he⟩ : ∃ W4, W4 = W3.putObj L (.loop (lp .ready none)) ∧ (Instr.endRound L none).run P W3 = .ok (.bool true) W4 := ⟨_, rfl, by
        have := run_endRound (P := P) none l3
        rw [hlp] at this ⊢
        exact this⟩
      refine ⟨_, _, he, rfl, ?_, ?_, ?_⟩
      · rw [e4]; exact (hE j).putObj (s := ()) _ i3 (by omega) l3 rfl
      · rw [e4]; exact World.putObj_heap_same (Array.getElem?_eq_some_iff.1 l3).1
      · rw [e4]; exact (World.putObj_heap_other (by omega)).trans d3
    | ret => exact hp.elim
    | exit id => exact hp.elim
    | goto t => exact hp.elim
    | panic ch => exact hp.elim
    | outgrown => exact hp.elim
  · -- behind the iterator
    rintro e W2 ⟨⟨v, rfl⟩, hi, hl, hd⟩
    refine ⟨none, _, by have := run_endLoop (P := P) hl (by rw [hlp]; simp); rw [hlp] at this; exact this, ?_⟩
    exact hdone w.heap.size _ (Nat.le_refl _) (hF.putObj (s := ()) _ hi (by omega) hl rfl) ((World.putObj_heap_other (by omega)).trans hd)

end Go.Proofs.YtmhpakhnclkenaaGreatDoor

namespace Go.Proofs.YtmhpakhnclkenaaGreatDoor
open Go.RowKit Go.Shelf

attribute [local go_sem] Oper.semAt_some

theorem least_of {p : Nat → Prop} (h : ∃ j, p j) : ∃ j, p j ∧ ∀ i, p i → j ≤ i := by
  obtain ⟨j, hj⟩ := h
  induction j using Nat.strongRecOn with
  | ind j ih =>
    by_cases hl : ∃ i, i < j ∧ p i
    · obtain ⟨i, hi, hp⟩ := hl
      exact ih i hi hp
    · exact ⟨j, hj, fun i hp => Nat.le_of_not_lt fun hi => hl ⟨i, hi, hp⟩⟩
/-- A loop whose rounds are counted down by a number that no slot holds. -/
theorem wpIn_loop_ix {F : Fence} {n : Nat} {P : Program} {c : Code} {Q : Exit → Act → World → Prop} {a : Act} {w : World} (I : Nat → Act → World → Prop) (h₀ : ∃ j, I j a w)
    (round : ∀ j a w, I j a w → c.wpIn F n P (Exit.then (fun a' w' => ∃ j', j' < j ∧ I j' a' w') Q) a w) : (Code.loop c).wpIn F n P Q a w := by
  classical
  refine wpIn_loop (fun a w => ∃ j, I j a w) (fun a w => if h : ∃ j, I j a w then Classical.choose (least_of h) else 0) h₀ fun a w hI => ?_
  obtain ⟨hj, hmin⟩ := Classical.choose_spec (least_of hI)
  refine wpIn_mono (round _ a w hj) fun e a' w' he => ?_
  have key : ∀ a' w', (∃ j', j' < Classical.choose (least_of hI) ∧ I j' a' w') → (∃ j, I j a' w') ∧ (if h : ∃ j, I j a' w' then Classical.choose (least_of h) else 0) < (if h : ∃ j, I j a w then Classical.choose (least_of h) else 0) := by
    rintro a' w' ⟨j', hlt, hI'⟩
    refine ⟨⟨j', hI'⟩, ?_⟩
    rw [dif_pos ⟨j', hI'⟩, dif_pos hI]
    exact Nat.lt_of_le_of_lt ((Classical.choose_spec (least_of ⟨j', hI'⟩)).2 j' hI') hlt
  cases e with
  | normal => exact key _ _ he
  | _ => exact he

set_option maxRecDepth 100000 in
set_option maxHeartbeats 2000000 in
theorem parted_seq (n B D1 D2 : Nat) (t : ByteArray) (m : Nat) (hm : 1 ≤ m) (st : Nat → Ps) (J E : Nat → World → Prop) (Fin : World → Prop)
    (hst : ∀ j, j < m → isW (st j).head t = decide (j + 1 < m))
    (hE : ∀ j W, j < m → E j W → RS n B W (st j) ∧ Box W D1 56 #[.pointer (some ⟨B, 0, none⟩)] ∧ Box W D2 9 #[.string t])
    (hJ : ∀ j W W', j + 1 < m → E j W → Kb B W W' → RS n B W' (st j).tl → J (j + 1) W')
    (hF : ∀ j W W', j + 1 = m → E j W → Kb B W W' → RS n B W' (st j) → Fin W') :
    SeqR B Fence.wide 4 Tryz.prog 83 #[.pointer (some ⟨D1, 0, none⟩), .pointer (some ⟨D2, 0, none⟩)] m J E Fin := by
  intro l R W hR hY h0 hr
  refine callsIn_of_wp Tryz.func83 rfl trivial ?_ rfl
  simp only [Tryz.ntmps83, List.size_toArray, List.length_cons, List.length_nil, Nat.reduceAdd, Nat.reduceSub, Array.replicate_succ, Array.replicate_zero, List.push_toArray, List.append_toArray, List.nil_append, List.cons_append]
  gi_wp2_with fail
  refine wpIn_loop_ix (fun c a' w' => ∃ (j : Nat) (u4 u5 u6 u7 u8 u9 u10 : Value), c = m - j ∧ j < m ∧ a' = { tmps := #[.func (.yield l) #[] #[], .pointer (some ⟨D1, 0, none⟩), .pointer (some ⟨D2, 0, none⟩), undef, u4, u5, u6, u7, u8, u9, u10], defers := [] } ∧ J j w' ∧ R w') ⟨m, 0, _, _, _, _, _, _, _, rfl, hm, rfl, h0, hr⟩ ?_
  rintro c _ wr ⟨j, u4, u5, u6, u7, u8, u9, u10, rfl, hj, rfl, hJj, hRr⟩
  obtain ⟨fn, tmps, assign, body, hy, hRo⟩ := hY j wr hj hJj hRr
  clear hY h0 hr hJj hRr
  gi_wp2_with fail
  refine hRo.mono ?_
  rintro e W3 ⟨rfl, hE3, hR3⟩
  obtain ⟨h3, x1, x2⟩ := hE j W3 hj hE3
  obtain ⟨c1, -⟩ := x1.one
  obtain ⟨c2, -⟩ := x2.one
  have hw := hst j hj
  have cE := eat_c n B (st j) t W3 h3
  by_cases hlast : j + 1 < m
  · rw [decide_eq_true hlast] at hw
    have e1 : eatP (st j) t = (true, (st j).tl) := by rw [eatP, hw]; rfl
    rw [e1] at cE
    replace cE := hide (callsIn_wide.2 cE : CallsIn Fence.wide 3 _ _ _ _ _)
    clear hw e1
    gi_wp2_with fail
    refine ⟨trivial, ?_⟩
    refine (unhide cE).mono ?_
    rintro e W4 ⟨rfl, h4, k4⟩
    clear cE
    gi_wp2_with fail
    exact ⟨m - (j + 1), by omega, j + 1, _, _, _, _, _, _, _, rfl, hlast, rfl, hJ j W3 W4 hlast hE3 k4 h4, hR W3 W4 hR3 k4⟩
  · rw [decide_eq_false hlast] at hw
    have e1 : eatP (st j) t = (false, st j) := by rw [eatP, hw]; rfl
    rw [e1] at cE
    replace cE := hide (callsIn_wide.2 cE : CallsIn Fence.wide 3 _ _ _ _ _)
    clear hw e1
    gi_wp2_with fail
    refine ⟨trivial, ?_⟩
    refine (unhide cE).mono ?_
    rintro e W4 ⟨rfl, h4, k4⟩
    clear cE
    gi_wp2_with fail
    go_end0
    exact ⟨⟨_, rfl⟩, hF j W3 W4 (by omega) hE3 k4 h4, hR W3 W4 hR3 k4⟩

end Go.Proofs.YtmhpakhnclkenaaGreatDoor

namespace Go.Proofs.YtmhpakhnclkenaaGreatDoor
open Go.RowKit Go.Shelf

section
variable {α : Type} (p : Ps → α × Ps) (t : ByteArray)
/-- The reader ahead of the j-th part, and behind it. -/
def prS : Nat → Ps → Ps
  | 0, s => s
  | j + 1, s => prS j (p s).2.tl
def stS (j : Nat) (s : Ps) : Ps := (p (prS p j s)).2
theorem prS_succ : ∀ (j : Nat) (s : Ps), prS p (j + 1) s = (stS p j s).tl
  | 0, _ => rfl
  | j + 1, s => prS_succ j (p s).2.tl
theorem prS_len (hp : ∀ s, (p s).2.rest.length ≤ s.rest.length) : ∀ (j : Nat) (s : Ps), (prS p j s).rest.length ≤ s.rest.length
  | 0, _ => Nat.le_refl _
  | j + 1, s => Nat.le_trans (prS_len hp j _) (Nat.le_trans (Ps.tl_len _) (hp s))
theorem parts_runF (hp : ∀ s, (p s).2.rest.length ≤ s.rest.length) : ∀ (f : Nat) (s : Ps), s.rest.length < f →
    1 ≤ (partsF p t f s).1.length ∧ (∀ j, j < (partsF p t f s).1.length → isW (stS p j s).head t = decide (j + 1 < (partsF p t f s).1.length)) ∧
    (∀ j, j < (partsF p t f s).1.length → (partsF p t f s).1[j]? = some (p (prS p j s)).1) ∧ (partsF p t f s).2 = stS p ((partsF p t f s).1.length - 1) s
  | 0, _, h => by omega
  | f + 1, s, h => by
    unfold partsF
    by_cases hw : isW (p s).2.head t = true
    · have h3 := isW_pos hw
      have h4 := hp s
      obtain ⟨i1, i2, i3, i4⟩ := parts_runF hp f (p s).2.tl (by omega)
      rw [if_pos hw]
      simp only [List.length_cons]
      refine ⟨by omega, fun j hj => ?_, fun j hj => ?_, ?_⟩
      · cases j with
        | zero => show isW (p s).2.head t = _; rw [hw]; symm; simp; omega
        | succ j =>
          have := i2 j (by omega)
          show isW (stS p j (p s).2.tl).head t = _
          rw [this]
          simp
      · cases j with
        | zero => rfl
        | succ j => exact (by simpa using i3 j (by omega) : ((p s).1 :: (partsF p t f (p s).2.tl).1)[j + 1]? = some (p (prS p j (p s).2.tl)).1)
      · rw [i4, show (partsF p t f (p s).2.tl).1.length + 1 - 1 = ((partsF p t f (p s).2.tl).1.length - 1) + 1 by omega]
        rfl
    · rw [if_neg hw]
      refine ⟨by simp, fun j hj => ?_, fun j hj => ?_, rfl⟩
      · obtain rfl : j = 0 := by simp at hj; omega
        show isW (p s).2.head t = _
        simpa using hw
      · obtain rfl : j = 0 := by simp at hj; omega
        rfl
theorem parts_run (hp : ∀ s, (p s).2.rest.length ≤ s.rest.length) (s : Ps) :
    1 ≤ (partsP p t s).1.length ∧ (∀ j, j < (partsP p t s).1.length → isW (stS p j s).head t = decide (j + 1 < (partsP p t s).1.length)) ∧
    (∀ j, j < (partsP p t s).1.length → (partsP p t s).1[j]? = some (p (prS p j s)).1) ∧ (partsP p t s).2 = stS p ((partsP p t s).1.length - 1) s :=
  parts_runF p t hp _ s (by omega)
end

/-! ### What abides a turn of what is no cells -/
theorem sm_grown {A B : World} {row : Option Nat} (hg : A.grownBy B row) (hr : ∀ r, row = some r → ∃ o : Obj, A.heap[r]? = some o ∧ okN o) : Sm A.heap.size A B := fun k o hk ho hc => by
  refine (hg.block k hk fun e => ?_).trans ho
  obtain ⟨o', h1, h2⟩ := hr k e.symm
  rw [ho] at h1; cases h1
  have h3 : o.isCells = false := h2
  rw [hc] at h3; cases h3
theorem Box.sm {A W : World} (hs : Sm A.heap.size A W) {B : Nat} {t : TypeId} {cs : Array Value} (h : Box A B t cs) : Box W B t cs := hs B _ h.lt h rfl
theorem RS.sm {n B : Nat} {A W : World} {s : Ps} (h : RS n B A s) (hs : Sm A.heap.size A W) (hz : A.heap.size ≤ W.heap.size) : RS n B W s := by
  obtain ⟨hn, hB, a, cap, h1, h2, hx, hw⟩ := h
  refine ⟨Nat.le_trans hn hz, hB, a, cap, h1, h2, hx.sm hs, ?_⟩
  rcases hw with hw | ⟨g, off, e, hg, hl, hc⟩
  · exact .inl hw
  · exact .inr ⟨g, off, e, hg, hl, fun j w hj i u hu => hs.cell (Nat.lt_of_lt_of_le hl hn) (hc j w hj i u hu)⟩
theorem own_sm {A W : World} (hs : Sm A.heap.size A W) {base : Nat} {e : TypeId} {size : Nat} {v : Value} {n : Nat} {xs : List Value} (h : A.ownsRow base e size v n xs) : W.ownsRow base e size v n xs := by
  refine ⟨h.1, ?_⟩
  rcases h.2 with h0 | ⟨g, cap, cur, e', hb, hg, hr⟩
  · exact .inl h0
  · exact .inr ⟨g, cap, cur, e', hb, hs g _ (Array.getElem?_eq_some_iff.1 hg).1 hg rfl, hr⟩
theorem LiesM.sm {m k : Nat} {A W : World} (hs : Sm A.heap.size A W) (hk : k ≤ A.heap.size) {a : Option Addr} {ks : List Tree} (h : LiesM m k A a ks) : LiesM m k W a ks := by
  induction h with
  | nil a => exact .nil a
  | row b off ks f hl hm hb hc hk' ih =>
    exact .row b off ks f hl hm hb (fun j t hj i u hu => hs.cell (by omega) (hc j t hj i u hu)) ih
theorem PsV.sm {A W : World} (hs : Sm A.heap.size A W) (hz : A.heap.size ≤ W.heap.size) (h : PsV A) : PsV W :=
  ⟨Nat.lt_of_lt_of_le h.1 hz, fun i hi => by
    have h1 := h.2 i hi
    obtain ⟨v, hv⟩ : ∃ v, psgV[i]? = some v := ⟨_, Array.getElem?_eq_getElem (by simpa [psgV, psigns] using hi)⟩
    rw [hv] at h1 ⊢
    exact hs.cell h.1 h1⟩

set_option maxHeartbeats 1000000 in
/-- parted: a function value over two boxes. -/
theorem rparted_c (B : Nat) (t : ByteArray) (W : World) :
    Calls Tryz.prog 51 #[.pointer (some ⟨B, 0, none⟩), .string t] W fun r W' => r = .returned (.func (.func 83) #[] #[.pointer (some ⟨W.heap.size, 0, none⟩), .pointer (some ⟨W.heap.size + 1, 0, none⟩)]) ∧ Below W.heap.size W W' ∧ Box W' W.heap.size 56 #[.pointer (some ⟨B, 0, none⟩)] ∧ Box W' (W.heap.size + 1) 9 #[.string t] := by
  have b0 : Below W.heap.size W ((W.alloc (.cells #[.pointer (some ⟨B, 0, none⟩)] 56)).alloc (.cells #[.string t] 9)) := ((Below.refl _ _).alloc (Nat.le_refl _) _).alloc (by simp) _
  have x0 : Box ((W.alloc (.cells #[.pointer (some ⟨B, 0, none⟩)] 56)).alloc (.cells #[.string t] 9)) W.heap.size 56 #[.pointer (some ⟨B, 0, none⟩)] := (Box.new _ _ _).alloc _
  have x1 := box_next W (.cells #[.pointer (some ⟨B, 0, none⟩)] 56) 9 #[.string t]
  go_enter Tryz.func51, Tryz.ntmps51
  go_wp2_with fail
  go_ret
  exact ⟨rfl, b0, x0, x1⟩

end Go.Proofs.YtmhpakhnclkenaaGreatDoor
