/-
  A region that draws its order, by what each operation's place holds: where whatever comes up gives its place what is said of it, of what the places that it waits for hold, all is so at the end, whatever order was picked. On the library's Derived.Orders.
  What both chains answer behind the loop of ChainTells, each as one: the event moved, the schema of a version; the steps of the last region.
  The walk of ChainTells: true for all arguments, in whatever world where the library's variable stands as its text lays it; nothing that lay is turned.
-/
import Derived.Test.YtcjpaldijngnpaaGreatDoorRefNew
import Derived.Test.YtcjpaldijngnpaaGreatDoorPureBk
import Derived.Test.YtcjpaldijngnpaaGreatDoorRefSame
namespace Go.Proofs.YtcjpaldijngnpaaGreatDoor
open Go.RowKit Go.Shelf

section
variable {P : Program} {ops : Array Oper} {md : Region.Mode} {Q : Exit → Act → World → Prop}

/-- Each operation writes a place of its own, below n. -/
def dstsOk (n : Nat) (ops : Array Oper) : Bool :=
  (List.range ops.size).all fun i => (ops[i]?).all fun o => o.dst.any (fun d => decide (d < n) && (List.range ops.size).all fun j => decide (j = i) || (ops[j]?).all fun o' => !(o'.dst == some d))
theorem dstsOk_spec {n : Nat} (h : dstsOk n ops = true) {i : Nat} {o : Oper} (ho : ops[i]? = some o) : ∃ d, o.dst = some d ∧ d < n ∧ ∀ j o', ops[j]? = some o' → j ≠ i → o'.dst ≠ some d := by
  have hi := (Array.getElem?_eq_some_iff.1 ho).1
  have h1 := List.all_eq_true.1 h i (List.mem_range.2 hi)
  rw [ho] at h1
  simp only [Option.all_some] at h1
  have h2 := h1
  cases hd : o.dst with
  | none => rw [hd] at h2; cases h2
  | some d =>
    rw [hd] at h2
    simp only [Option.any_some, Bool.and_eq_true, decide_eq_true_eq] at h2
    refine ⟨d, rfl, h2.1, fun j o' ho' hj hd' => ?_⟩
    have h3 := List.all_eq_true.1 h2.2 j (List.mem_range.2 (Array.getElem?_eq_some_iff.1 ho').1)
    rw [ho'] at h3
    simp [hj, hd'] at h3

/-- What holds where some operations have come: the places that they wrote hold what is said of them. -/
structure FactsAt (R : World → World → Prop) (Φ : Nat → Value → World → Prop) (md : Region.Mode) (ops : Array Oper) (a0 : Act) (w0 : World) (listed : Array Bool) (a : Act) (w : World) : Prop where
  size : listed.size = ops.size
  tsz : a.tmps.size = a0.tmps.size
  dfr : a.defers = a0.defers
  bel : R w0 w
  bef : ∀ s, (∀ (j : Nat) (oj : Oper), ops[j]? = some oj → oj.dst = some s → listed.getD j true = false) → a.tmps.getD s undef = a0.tmps.getD s undef
  up : ∀ (j k : Nat), j < ops.size → listed.getD j true = true → waits md ops j k = true → listed.getD k true = true
  got : ∀ (j : Nat) (oj : Oper) (d : Nat), ops[j]? = some oj → listed.getD j true = true → oj.dst = some d → Φ j (a.tmps.getD d undef) w

/-- A place that no operation writes. -/
def noDst (ops : Array Oper) (s : Nat) : Bool := ops.all fun o => !(o.dst == some s)
theorem noDst_spec {ops : Array Oper} {s : Nat} (h : noDst ops s = true) : ∀ (j : Nat) (oj : Oper), ops[j]? = some oj → oj.dst ≠ some s := fun j oj hj hd => by
  unfold noDst at h
  have := (Array.all_eq_true.1 h) j (Array.getElem?_eq_some_iff.1 hj).1
  rw [(Array.getElem?_eq_some_iff.1 hj).2, hd] at this
  simp at this
theorem put_same (a : Act) (d : Nat) (v : Value) (h : d < a.tmps.size) : (a.put (some d) v).tmps.getD d undef = v := by
  simp [Act.put, Array.getD_eq_getD_getElem?, h]
theorem put_ne (a : Act) (d s : Nat) (v : Value) (h : d ≠ s) : (a.put (some d) v).tmps.getD s undef = a.tmps.getD s undef := by
  simp [Act.put, Array.getD_eq_getD_getElem?, h]

theorem FactsAt.old {R : World → World → Prop} {Φ : Nat → Value → World → Prop} {a0 : Act} {w0 : World} {listed : Array Bool} {a : Act} {w : World} (h : FactsAt R Φ md ops a0 w0 listed a w) (s : Nat) (hs : ∀ (j : Nat) (oj : Oper), ops[j]? = some oj → oj.dst ≠ some s) : a.tmps.getD s undef = a0.tmps.getD s undef :=
  h.bef s fun j oj hj hd => absurd hd (hs j oj hj)
/-- Whatever writes s waits for i. -/
def lateDst (md : Region.Mode) (ops : Array Oper) (i s : Nat) : Bool := (List.range ops.size).all fun j => (ops[j]?).all fun o => !(o.dst == some s) || waits md ops j i
theorem FactsAt.early {R : World → World → Prop} {Φ : Nat → Value → World → Prop} {a0 : Act} {w0 : World} {listed : Array Bool} {a : Act} {w : World} (h : FactsAt R Φ md ops a0 w0 listed a w) {i : Nat} (hr : i ∈ Region.ready md ops listed) (s : Nat) (hs : lateDst md ops i s = true) : a.tmps.getD s undef = a0.tmps.getD s undef :=
  h.bef s fun j oj hj hd => by
    have hjs := (Array.getElem?_eq_some_iff.1 hj).1
    have h1 := List.all_eq_true.1 hs j (List.mem_range.2 hjs)
    rw [hj] at h1
    simp only [Option.all_some, hd, beq_self_eq_true, Bool.not_true, Bool.false_or] at h1
    cases hq : listed.getD j true
    · rfl
    · have := h.up j i hjs hq h1
      rw [(mem_ready.1 hr).1] at this; cases this

theorem facts_step (R : World → World → Prop) (hRt : ∀ {w w' w'' : World}, R w w' → R w' w'' → R w w'') (Φ : Nat → Value → World → Prop) (hst : ∀ i v w w', Φ i v w → R w w' → Φ i v w') (a0 : Act) (w0 : World) (hk : dstsOk a0.tmps.size ops = true)
    {listed : Array Bool} {a : Act} {w : World} {i : Nat} (hI : FactsAt R Φ md ops a0 w0 listed a w) (hr : i ∈ Region.ready md ops listed) (hs : ∀ oi, ops[i]? = some oi → Region.wanted oi (yielded ops a.tmps) = true ∧ Oper.wp P oi a w (fun a' w' => ∃ v, a' = a.put oi.dst v ∧ Φ i v w' ∧ R w w') Q) :
    wpOp P ops Q i (fun a' w' => FactsAt R Φ md ops a0 w0 (listed.setIfInBounds i true) a' w') a w := by
  obtain ⟨hun, oi, hoi, _⟩ := mem_ready.1 hr
  obtain ⟨d, hdd, hdn, hoth⟩ := dstsOk_spec hk hoi
  have hs := hs oi hoi
  unfold wpOp
  simp only [hoi]
  have hw := hs.1
  rw [if_pos hw]
  refine .inl ?_
  refine Oper.wp_mono (fun a' w' h => ?_) hs.2
  obtain ⟨v, rfl, hv, hb⟩ := h
  rw [hdd]
  refine ⟨by rw [Array.size_setIfInBounds]; exact hI.size, by simp [Act.put, hI.tsz], hI.dfr, hRt hI.bel hb, fun s hs' => ?_, fun j k hj hl hw' => ?_, fun j oj d' hj hl hd' => ?_⟩
  · have hne : d ≠ s := fun e => by
      have := hs' i oi hoi (by rw [hdd, e])
      rw [getD_set_same hun] at this; cases this
    rw [put_ne _ _ _ _ hne]
    refine hI.bef s fun j oj hj hd' => ?_
    have := hs' j oj hj hd'
    by_cases hij : i = j
    · subst hij; exact hun
    · rwa [getD_set_ne true hij] at this
  · by_cases hij : i = j
    · subst hij
      have := ready_dep hr k hw'
      by_cases hik : i = k
      · subst hik; exact getD_set_same hun
      · rw [getD_set_ne true hik]; exact this
    · rw [getD_set_ne true hij] at hl
      by_cases hik : i = k
      · subst hik; exact getD_set_same hun
      · rw [getD_set_ne true hik]; exact hI.up j k hj hl hw'
  · by_cases hij : j = i
    · subst hij
      rw [hoi] at hj; cases hj
      rw [hdd] at hd'; cases hd'
      rw [put_same _ _ _ (by rw [hI.tsz]; exact hdn)]
      exact hv
    · rw [getD_set_ne true (Ne.symm hij)] at hl
      rw [put_ne _ _ _ _ (fun e => hoth j oj hj hij (by rw [hd', e]))]
      exact hst j _ w w' (hI.got j oj d' hj hl hd') hb
theorem facts_zero (R : World → World → Prop) (hRr : ∀ w, R w w) (Φ : Nat → Value → World → Prop) (a0 : Act) (w0 : World) : FactsAt R Φ md ops a0 w0 (Array.replicate ops.size false) a0 w0 :=
  ⟨by simp, rfl, rfl, hRr _, fun _ _ => rfl, fun j k hj hl _ => by simp [Array.getD_eq_getD_getElem?, hj] at hl, fun j oj d hj hl _ => by
      have hi := (Array.getElem?_eq_some_iff.1 hj).1
      simp [Array.getD_eq_getD_getElem?, hi] at hl⟩
theorem wpAny_facts (R : World → World → Prop) (hRr : ∀ w, R w w) (hRt : ∀ {w w' w'' : World}, R w w' → R w' w'' → R w w'') (Φ : Nat → Value → World → Prop) (hst : ∀ i v w w', Φ i v w → R w w' → Φ i v w') (a0 : Act) (w0 : World) (hd : depsUp md ops = true) (hk : dstsOk a0.tmps.size ops = true)
    (hstep : ∀ listed a w i oi, FactsAt R Φ md ops a0 w0 listed a w → i ∈ Region.ready md ops listed → ops[i]? = some oi → Region.wanted oi (yielded ops a.tmps) = true ∧ Oper.wp P oi a w (fun a' w' => ∃ v, a' = a.put oi.dst v ∧ Φ i v w' ∧ R w w') Q)
    (hdone : ∀ a w, a.tmps.size = a0.tmps.size → a.defers = a0.defers → R w0 w → (∀ s, (∀ (j : Nat) (oj : Oper), ops[j]? = some oj → oj.dst ≠ some s) → a.tmps.getD s undef = a0.tmps.getD s undef) → (∀ (j : Nat) (oj : Oper) (d : Nat), ops[j]? = some oj → oj.dst = some d → Φ j (a.tmps.getD d undef) w) → Q .normal a w) :
    wpAny P md ops Q ops.size (Array.replicate ops.size false) a0 w0 := by
  refine wpAny_inv (fun listed a w => FactsAt R Φ md ops a0 w0 listed a w) ?_ ?_ _ _ _ _ ?_ ?_
  · exact fun listed a w i hI hr => facts_step R hRt Φ hst a0 w0 hk hI hr (hstep listed a w i · hI hr)
  · intro listed a w hI hr
    have hall := ready_nil hd hI.size hr
    exact hdone a w hI.tsz hI.dfr hI.bel hI.old (fun j oj d hj hd' => hI.got j oj d hj (hall j (Array.getElem?_eq_some_iff.1 hj).1) hd')
  · unfold togo
    exact Nat.le_trans (List.length_filter_le _ _) (by simp)
  · exact facts_zero R hRr Φ a0 w0

end
end Go.Proofs.YtcjpaldijngnpaaGreatDoor

namespace Go.Proofs.YtcjpaldijngnpaaGreatDoor
open Go.RowKit Go.Shelf

/-- The event of nothing. -/
def y0 : Ev := ⟨⟨⟨#[]⟩, by decide⟩, 0, []⟩
/-- An event as a value. -/
abbrev evV (y : Ev) (a : Option Addr) (c : Nat) : Value := .agg #[.string y.ty.1, .int .i64 y.ts, .slice a y.vs.length c]
/-- What Move answers: the event, and what is wrong. -/
def mvP (ts : List Ty) (cs : List Ch) (x : Ev) (f g : Int) : Ev × Int :=
  if spansB cs f g = true then (if isE (vers ts cs f.toNat) x = 0 then (⟨x.ty, x.ts, (mvK ts cs f.toNat x (g.toNat - f.toNat)).vs⟩, 0) else (y0, isE (vers ts cs f.toNat) x)) else (y0, 20)
theorem move_got {ts : List Ty} {cs : List Ch} {x : Ev} {f g : Int} {base : Nat} {e : Ending} {W : World} (h : MoveAns ts cs x f g base e W) :
    ∃ a c, e = .returned (.tuple #[evV (mvP ts cs x f g).1 a c, errE (mvP ts cs x f g).2]) ∧ Vals W.heap.size W a (mvP ts cs x f g).1.vs := by
  rcases h with ⟨h1, he⟩ | ⟨h1, h2, he⟩ | ⟨h1, h2, a', c', he, ho⟩
  · rw [mvP, if_neg (by rw [h1]; decide)]
    exact ⟨none, 0, by rw [he, errE_no (by decide)]; rfl, .inl rfl⟩
  · rw [mvP, if_pos h1, if_neg h2]
    exact ⟨none, 0, by rw [he]; rfl, .inl rfl⟩
  · rw [mvP, if_pos h1, if_pos h2]
    obtain ⟨a2, c2, e2, hV, -⟩ := vals_of_owns ho
    rw [e2] at he
    exact ⟨a2, c2, by rw [he]; rfl, hV⟩
theorem rmove_got {ts : List Ty} {cs : List Ch} {x : Ev} {f g : Int} {e : Ending} {W : World} (h : RMoveAns ts cs x f g e W) :
    ∃ a c, e = .returned (.tuple #[evV (mvP ts cs x f g).1 a c, .int .i64 (mvP ts cs x f g).2]) ∧ Vals W.heap.size W a (mvP ts cs x f g).1.vs := by
  rcases h with ⟨h1, he⟩ | ⟨h1, h2, he⟩ | ⟨h1, h2, a', c', he, hV⟩
  · rw [mvP, if_neg (by rw [h1]; decide)]
    exact ⟨none, 0, by rw [he]; rfl, .inl rfl⟩
  · rw [mvP, if_pos h1, if_neg h2]
    exact ⟨none, 0, by rw [he]; rfl, .inl rfl⟩
  · rw [mvP, if_pos h1, if_pos h2]
    exact ⟨a', c', by rw [he], hV⟩
theorem mvP_len {ts : List Ty} {cs : List Ch} (hS : Sch ts) {x : Ev} (h20 : x.vs.length ≤ 20) (f g : Int) : (mvP ts cs x f g).1.vs.length ≤ 20 := by
  unfold mvP
  split
  · split
    · exact mvK_len hS cs _ h20 _
    · exact Nat.zero_le _
  · exact Nat.zero_le _

/-- What At answers: the schema, and whether there is that version. -/
def atP (ts : List Ty) (cs : List Ch) (v : Int) : List Ty × Bool := if 0 ≤ v ∧ v ≤ cs.length then (vers ts cs v.toNat, true) else ([], false)
theorem at_got {ts : List Ty} {cs : List Ch} {v : Int} (hS : Sch ts) {base : Nat} {e : Ending} {W : World} (h : AtAns ts cs v base e W) :
    ∃ a c, e = .returned (.tuple #[.agg #[.slice a (atP ts cs v).1.length c], .bool (atP ts cs v).2]) ∧ Typs W.heap.size W a (atP ts cs v).1 := by
  rcases h with ⟨k, a', c', rfl, hk, he, hO⟩ | ⟨hv, he⟩
  · rw [atP, if_pos ⟨by omega, by omega⟩]
    exact ⟨a', c', he, hO.typs (sch_max (sch_vers hS cs k))⟩
  · rw [atP, if_neg (by omega)]
    exact ⟨none, 0, he, .inl rfl⟩
theorem refAt_got {ts : List Ty} {cs : List Ch} {v : Int} {e : Ending} {W : World}
    (h : (∃ (k : Nat) (a : Option Addr) (c : Nat), v = k ∧ k ≤ cs.length ∧ e = .returned (.tuple #[.agg #[.slice a (vers ts cs k).length c], .bool true]) ∧ Typs W.heap.size W a (vers ts cs k)) ∨ ((v < 0 ∨ (cs.length : Int) < v) ∧ e = .returned (.tuple #[.agg #[.slice none 0 0], .bool false]))) :
    ∃ a c, e = .returned (.tuple #[.agg #[.slice a (atP ts cs v).1.length c], .bool (atP ts cs v).2]) ∧ Typs W.heap.size W a (atP ts cs v).1 := by
  rcases h with ⟨k, a', c', rfl, hk, he, hT⟩ | ⟨hv, he⟩
  · rw [atP, if_pos ⟨by omega, by omega⟩]
    exact ⟨a', c', he, hT⟩
  · rw [atP, if_neg (by omega)]
    exact ⟨none, 0, he, .inl rfl⟩
theorem atP_five {ts : List Ty} (hS : Sch ts) (cs : List Ch) (v : Int) : (atP ts cs v).1.length ≤ 5 ∧ ∀ k, (ty (atP ts cs v).1 k).2.length ≤ 5 := by
  have key : ∀ us : List Ty, Sch us → us.length ≤ 5 ∧ ∀ k, (ty us k).2.length ≤ 5 := fun us h => ⟨h.1, fun k => by
    by_cases hk : k < us.length
    · exact (h.2 k hk).2.2.1
    · simp [ty, List.getElem?_eq_none (Nat.le_of_not_lt hk)]; try exact Nat.zero_le _⟩
  unfold atP
  split
  · exact key _ (sch_vers hS cs _)
  · exact key [] ⟨by simp, fun k hk => by simp at hk⟩

/-- What Back answers, in any case, is a text and whether there is one. -/
theorem backA_form (ts : List Ty) (cs : List Ch) (ty' fd' : Txt) (f g : Int) : ∃ (s : ByteArray) (b : Bool), backA ts cs ty' fd' f g = .tuple #[.string s, .bool b] := by
  have key : ∀ o : Option Txt, ∃ (s : ByteArray) (b : Bool), backV o = .tuple #[.string s, .bool b] := fun o => by
    cases o with
    | none => exact ⟨_, _, rfl⟩
    | some s => exact ⟨_, _, rfl⟩
  unfold backA
  split
  · exact key _
  · exact key _

/-- What a step of the last region comes to. -/
abbrev StepV (p : Value → Prop) (o : Oper) (a : Act) (w : World) (Q : Exit → Act → World → Prop) : Prop :=
  Oper.wp Tryz.prog o a w (fun a' w' => ∃ v, a' = a.put o.dst v ∧ p v ∧ Below w.heap.size w w') Q
theorem eval_tmp (a : Act) (d : Nat) : a.eval (.tmp d) = a.tmps.getD d undef := rfl
theorem stepV_read {p : Value → Prop} {o : Oper} {a : Act} {w : World} {Q : Exit → Act → World → Prop} (v : Value) (hp : p v) (h : (execOp a.eval o).run Tryz.prog w = .ok (.value v) w) : StepV p o a w Q := by
  unfold StepV Oper.wp
  rw [h]
  exact ⟨v, rfl, hp, Below.refl _ _⟩
theorem stepV_call {p : Value → Prop} {o : Oper} {a : Act} {w : World} {Q : Exit → Act → World → Prop} (k : Nat) (xs : Array Operand) (ts : Array TypeId) (ho : o.op = .call { callee := .value (.func k), args := xs, argTypes := ts })
    (en : ∀ args w, (callFunc k args).run Tryz.prog w = .ok (.enter k args) w) (vals : Array Value) (he : xs.map a.eval = vals) (hc : Calls Tryz.prog k vals w fun e w' => ∃ u, e = .returned u ∧ p u ∧ Below w.heap.size w w') : StepV p o a w Q := by
  have hr : (execOp a.eval o).run Tryz.prog w = .ok (.enter k vals) w := by
    unfold execOp
    simp [ho, resolve, Act.eval, Deferred.ofValue, invoke, he, en]
  unfold StepV Oper.wp
  rw [hr, Oper.upon_enter]
  refine hc.mono fun e w' h => ?_
  obtain ⟨u, rfl, h1, h2⟩ := h
  exact ⟨u, rfl, h1, h2⟩
theorem wanted_none {ops : Array Oper} {o : Oper} {a : Act} (h : o.guard = none) : Region.wanted o (yielded ops a.tmps) = true := by simp [Region.wanted, h]
theorem wanted_some {ops : Array Oper} {o og : Oper} {a : Act} {g d : Nat} (h : o.guard = some (g, true)) (hg : ops[g]? = some og) (hd : og.dst = some d) (hv : a.tmps.getD d undef = .bool true) : Region.wanted o (yielded ops a.tmps) = true := by
  have ht : a.tmps[d]? = some (.bool true) := by
    rw [Array.getD_eq_getD_getElem?] at hv
    cases hq : a.tmps[d]? with
    | none => rw [hq] at hv; cases hv
    | some v => rw [hq] at hv; simp at hv; rw [hv]
  simp [Region.wanted, h, yielded, hg, hd, ht]

end Go.Proofs.YtcjpaldijngnpaaGreatDoor

namespace Go.Proofs.YtcjpaldijngnpaaGreatDoor
open Go.RowKit Go.Shelf

theorem rnew_got {n : Nat} {ts : List Ty} {ls : List Ch} {e : Ending} {W : World} (hS : Sch ts) (h0 : addAll ts [] ls = 0) (h : Hid ((¬ Sch ts ∧ RNewLeft 10 n ts ls e W) ∨ (Sch ts ∧ RNewLeft (addAll ts [] ls) n ts ls e W))) :
    ∃ (Br : Nat) (sa la : Option Addr) (sc lc : Nat) (xs : List Sw), e = .returned (.tuple #[.pointer (some ⟨Br, 0, none⟩), .int .i64 0]) ∧ n ≤ Br ∧ RCh W.heap.size W Br sa la sc lc xs ts ls := by
  rcases unhide h with ⟨hno, -⟩ | ⟨-, hN2⟩
  · exact absurd hS hno
  rw [h0] at hN2
  rcases hN2 with ⟨-, Br, sa, la, sc, lc, xs, e, hBr, -, R⟩ | ⟨h, -⟩
  · exact ⟨Br, sa, la, sc, lc, xs, e, hBr, R⟩
  · exact absurd rfl h

theorem left_c {r : Int} {Bp cap capc : Nat} {a ac : Option Addr} {ts : List Ty} {cs : List Ch} {c : Ch} {W : World} (h : AddLeft r Bp cap capc a ac ts cs c W) : ∃ ac' capc', IsCh W.heap.size W Bp a ac' cap capc' ts (if r = 0 then cs ++ [c] else cs) := by
  unfold AddLeft at h
  split at h
  · next h0 => rw [if_pos h0]; exact h
  · next h0 => rw [if_neg h0]; exact ⟨_, _, h⟩
theorem left_r {r : Int} {Br sc lc : Nat} {sa la : Option Addr} {xs : List Sw} {ts : List Ty} {cs : List Ch} {c : Ch} {W : World} (h : RLeft r Br sc lc sa la xs ts cs c W) : ∃ sa' la' sc' lc' xs', RCh W.heap.size W Br sa' la' sc' lc' xs' ts (if r = 0 then cs ++ [c] else cs) := by
  unfold RLeft at h
  split at h
  · next h0 => rw [if_pos h0]; exact h
  · next h0 => rw [if_neg h0]; exact ⟨_, _, _, _, _, h⟩
theorem code_e (r : Int) (w : World) (hg : w.cell? ⟨0, 0, none⟩ = some (.iface 144 (.agg #[.pointer (some ⟨1, 33, none⟩)]))) : Calls Tryz.prog 10 #[errE r] w fun e w' => e = .returned (.int .i64 r) ∧ Below w.heap.size w w' := by
  by_cases h : r = 0
  · subst h; exact code_0 w
  · rw [errE_no h]; exact code_c r w hg

/-- Both chains in memory, of one row of changes. -/
def Both (W : World) (Bp Br : Nat) (ts : List Ty) (a' : Option Addr) (cap' : Nat) : Prop :=
  ∃ (cs : List Ch) (ac : Option Addr) (capc : Nat) (sa la : Option Addr) (sc lc : Nat) (xs : List Sw), cs.length ≤ 20 ∧ Taken ts cs ∧ IsCh W.heap.size W Bp a' ac cap' capc ts cs ∧ RCh W.heap.size W Br sa la sc lc xs ts cs

set_option maxRecDepth 100000 in
set_option maxHeartbeats 8000000 in
theorem tells_c (a al av : Option Addr) (cap capl cv : Nat) (ts : List Ty) (ls : List Ch) (x : Ev) (f g : Int) (ty' fd' : Txt) (hm : ts.length ≤ maxLen) (w : World) (hg : w.cell? ⟨0, 0, none⟩ = some (.iface 144 (.agg #[.pointer (some ⟨1, 33, none⟩)]))) (hT : Typs w.heap.size w a ts) (hL : Chs w.heap.size w al ls) (hV : Vals w.heap.size w av x.vs) :
    Calls Tryz.prog 3 #[.agg #[.slice a ts.length cap], .slice al ls.length capl, .agg #[.string x.ty.1, .int .i64 x.ts, .slice av x.vs.length cv], .int .i64 f, .int .i64 g, .string ty'.1, .string fd'.1] w fun e w' => e = .returned (.bool true) ∧ Below w.heap.size w w' := by
  have hw0 : 0 < w.heap.size := by
    rcases Nat.eq_zero_or_pos w.heap.size with h0 | h
    · simp [World.cell?, h0] at hg
    · exact h
  have hgB : ∀ W, Below w.heap.size w W → W.cell? ⟨0, 0, none⟩ = some (.iface 144 (.agg #[.pointer (some ⟨1, 33, none⟩)])) := fun W hb => (hb.cell (p := ⟨0, 0, none⟩) hw0).trans hg
  replace hgB := hide hgB
  obtain ⟨W0, hW0⟩ : ∃ W0, W0 = (w.alloc (.cells #[.slice a ts.length cap] 24)).alloc (.cells #[.string x.ty.1, .int .i64 x.ts, .slice av x.vs.length cv] 28) := ⟨_, rfl⟩
  have b0 : Below w.heap.size w W0 := by rw [hW0]; exact ((Below.refl _ _).alloc (Nat.le_refl _) _).alloc (by simp) _
  have x7 : Box W0 w.heap.size 24 #[.slice a ts.length cap] := by rw [hW0]; exact (Box.new w 24 #[.slice a ts.length cap]).alloc _
  have x9 : Box W0 (w.heap.size + 1) 28 #[.string x.ty.1, .int .i64 x.ts, .slice av x.vs.length cv] := by
    have := Box.new (w.alloc (.cells #[.slice a ts.length cap] 24)) 28 #[.string x.ty.1, .int .i64 x.ts, .slice av x.vs.length cv]
    simp only [World.size_alloc] at this
    rw [hW0]; exact this
  have cK := hide (known_c W0)
  clear hg
  go_enter Tryz.func3, Tryz.ntmps3
  go_upto_region 1 with fail
  rw [← hW0]
  clear hW0
  go_wp2_with fail
  refine (unhide cK).mono ?_
  rintro e w1 ⟨rfl, hb1⟩
  clear cK
  have bw1 := b0.trans (hb1.mono b0.size)
  have y7 := x7.on hb1 x7.lt
  have y9 := x9.on hb1 x9.lt
  clear x7 x9 b0 hb1
  have hs := y7.one.1
  have cS := hide (refSch_c a cap ts hm w1 (hT.on bw1))
  go_wp2_with fail
  refine (unhide cS).mono ?_
  rintro e w2 ⟨B, rfl, hb2, hB⟩
  clear cS hs
  have bw2 := bw1.trans (hb2.mono bw1.size)
  have z7 := y7.on hb2 y7.lt
  have z9 := y9.on hb2 y9.lt
  obtain ⟨he0, he1, he2⟩ := z9.three
  clear y7 y9 hb2 bw1
  cases B with
  | false =>
    go_wp2_with fail
    go_ret
    exact ⟨rfl, bw2⟩
  | true =>
  have hS := (unhide hB).1 rfl
  clear hB
  by_cases hl30 : ls.length ≤ 30
  case neg =>
    have hl30' : (30 : Int) < ls.length := by omega
    go_wp2_with fail
    go_ret
    exact ⟨rfl, bw2⟩
  have hl30' : (ls.length : Int) ≤ 30 := by omega
  by_cases hv20 : x.vs.length ≤ 20
  case neg =>
    have hv20' : (20 : Int) < x.vs.length := by omega
    go_wp2_with fail
    go_ret
    exact ⟨rfl, bw2⟩
  have hv20' : (x.vs.length : Int) ≤ 20 := by omega
  have hs := z7.one.1
  have cN := hide (new_c a none cap 0 ts [] hm (by decide) w2 (hT.on bw2) (.inl rfl))
  go_wp2_with fail
  refine (unhide cN).mono ?_
  rintro e w3 ⟨hb3, hN⟩
  clear cN hs he0 he1 he2
  obtain ⟨Bp, a', ac, cap', capc, rfl, hBp, C3⟩ := new_got hS (show addAll ts [] [] = 0 from rfl) hN
  clear hN
  have bw3 := bw2.trans (hb3.mono bw2.size)
  have hs := (z7.on hb3 z7.lt).one.1
  have cR := hide (rnew_c a none cap 0 ts [] hm (by decide) w3 (hT.on bw3) (.inl rfl))
  go_wp2_with fail
  refine (unhide cR).mono ?_
  rintro e w4 ⟨hb4, hR⟩
  clear cR hs
  obtain ⟨Br, sa, la, sc, lc, xs, rfl, hBr, R4⟩ := rnew_got hS (show addAll ts [] [] = 0 from rfl) hR
  clear hR
  have b24 := hb3.trans (hb4.mono hb3.size)
  have hBr2 : w2.heap.size ≤ Br := Nat.le_trans hb3.size hBr
  have C4h := hide (show Both w4 Bp Br ts a' cap' from ⟨[], ac, capc, sa, la, sc, lc, xs, by decide, Taken.nil ts, (C3.on hb4).mono hb4.size, R4⟩)
  clear C3 R4 hb3 hb4 bw3 hBr
  go_wp2_with fail
  go_loopw [19] (fun iv wr => ∃ i : Nat, i ≤ ls.length ∧ iv = .int .i64 i ∧ Hid (Both wr Bp Br ts a' cap') ∧ Below w2.heap.size w2 wr) (fun i _ => ls.length - (intOf i).toNat)
  case atStart => exact ⟨0, Nat.zero_le _, rfl, C4h, b24⟩
  case round =>
    obtain ⟨i, hi, rfl, hC, hb⟩ := hrel
    clear C4h b24
    have bwr := bw2.trans (hb.mono bw2.size)
    by_cases hlt : i < ls.length
    · have hlt' : (i : Int) < ls.length := by omega
      obtain ⟨b, off, eal, hbl, hcs⟩ : ∃ b off, al = some ⟨b, off, none⟩ ∧ b < w.heap.size ∧ ∀ (j : Nat) u, (chn ls i).cs[j]? = some u → wr.cell? ⟨b, off + i * 7 + j, none⟩ = some u := by
        rcases hL.below bwr with h | ⟨b, off, e, hb, hc⟩
        · rw [h] at hlt; simp at hlt
        · exact ⟨b, off, e, hb, hc i hlt⟩
      obtain ⟨c, hc⟩ : ∃ c, c = chn ls i := ⟨_, rfl⟩
      rw [← hc] at hcs
      clear hc
      have hd0 := hcs 0 _ rfl
      have hd1 := hcs 1 _ rfl
      have hd2 := hcs 2 _ rfl
      have hd3 := hcs 3 _ rfl
      have hd4 := hcs 4 _ rfl
      have hd5 := hcs 5 _ rfl
      have hd6 := hcs 6 _ rfl
      rw [Nat.add_zero] at hd0
      clear hcs
      subst eal
      by_cases h1 : 50 < c.f.1.size
      · have h1' : (50 : Int) < c.f.1.size := by omega
        go_wp2_with fail
        go_ret
        exact ⟨rfl, bwr⟩
      by_cases h2 : 50 < c.o.1.size
      · have h1' : (c.f.1.size : Int) ≤ 50 := by omega
        have h2' : (50 : Int) < c.o.1.size := by omega
        go_wp2_with fail
        go_ret
        exact ⟨rfl, bwr⟩
      by_cases h3 : 50 < c.ds.1.size
      · have h1' : (c.f.1.size : Int) ≤ 50 := by omega
        have h2' : (c.o.1.size : Int) ≤ 50 := by omega
        have h3' : (50 : Int) < c.ds.1.size := by omega
        go_wp2_with fail
        go_ret
        exact ⟨rfl, bwr⟩
      have h1' : (c.f.1.size : Int) ≤ 50 := by omega
      have h2' : (c.o.1.size : Int) ≤ 50 := by omega
      have h3' : (c.ds.1.size : Int) ≤ 50 := by omega
      go_upto_region 14 with fail
      have hmx : Tryz.prog.follows .mixedOrders = true := by kernel_rfl
      go_cut [123] from 68 to 123 (fun v wx => v = .bool false ∧ Hid (Both wx Bp Br ts a' cap') ∧ Below w2.heap.size w2 wx)
      case first =>
        obtain ⟨cs, ac, capc, sa, la, sc, lc, xs, h20, hTk, C, R⟩ := unhide hC
        obtain ⟨V, hVd⟩ : ∃ V, V = ({ heap := wr.heap, tape := wr.tape, drawn := wr.drawn + 1, os := wr.os, output := wr.output } : World) := ⟨_, rfl⟩
        have bV : Below wr.heap.size wr V := by rw [hVd]; exact (Below.refl _ _).drew
        have bwV := bwr.trans (bV.mono bwr.size)
        have cel : ∀ W, Below w.heap.size w W → Below w.heap.size w wr → W.cell? ⟨b, off + i * 7, none⟩ = some (.int .i64 c.k) ∧ W.cell? ⟨b, off + i * 7 + 1, none⟩ = some (.string c.t.1) ∧ W.cell? ⟨b, off + i * 7 + 2, none⟩ = some (.string c.f.1) ∧ W.cell? ⟨b, off + i * 7 + 3, none⟩ = some (.string c.o.1) ∧ W.cell? ⟨b, off + i * 7 + 4, none⟩ = some (.int .i64 c.dk) ∧ W.cell? ⟨b, off + i * 7 + 5, none⟩ = some (.int .i64 c.dn) ∧ W.cell? ⟨b, off + i * 7 + 6, none⟩ = some (.string c.ds.1) := fun W h h' => by
          have k : ∀ o u, wr.cell? ⟨b, o, none⟩ = some u → W.cell? ⟨b, o, none⟩ = some u := fun o u hu => (h.cell (p := ⟨b, o, none⟩) hbl).trans (((h'.cell (p := ⟨b, o, none⟩) hbl).symm).trans hu)
          exact ⟨k _ _ hd0, k _ _ hd1, k _ _ hd2, k _ _ hd3, k _ _ hd4, k _ _ hd5, k _ _ hd6⟩
        have cD := cel V bwV bwr
        replace cel := hide cel
        have CV := (C.on bV).mono bV.size
        have RV := (R.on bV).mono bV.size
        have hlen : (if addR ts cs c = 0 then cs ++ [c] else cs).length ≤ 20 := by
          split
          · next h => have := addR_len h; rw [List.length_append, List.length_singleton]; omega
          · exact h20
        have hTk2 : Taken ts (if addR ts cs c = 0 then cs ++ [c] else cs) := by
          split
          · next h => exact hTk.snoc h
          · exact hTk
        obtain ⟨cs2, hcs2⟩ : ∃ cs2, cs2 = (if addR ts cs c = 0 then cs ++ [c] else cs) := ⟨_, rfl⟩
        rw [← hcs2] at hlen hTk2
        have cA := hide (add_c Bp cap' capc a' ac ts cs c hS h20 V CV)
        obtain ⟨r, hr⟩ : ∃ r, r = addR ts cs c := ⟨_, rfl⟩
        rw [← hr] at cA hcs2
        replace hr := hide hr
        replace hcs2 := hide hcs2
        have hlen' : (cs2.length : Int) ≤ 20 := by omega
        refine wp_region_any hmx (wpAny_of_C (C := fun w' => w'.cell? ⟨b, off + i * 7, none⟩ = some (.int .i64 c.k) ∧ w'.cell? ⟨b, off + i * 7 + 1, none⟩ = some (.string c.t.1) ∧ w'.cell? ⟨b, off + i * 7 + 2, none⟩ = some (.string c.f.1) ∧ w'.cell? ⟨b, off + i * 7 + 3, none⟩ = some (.string c.o.1) ∧ w'.cell? ⟨b, off + i * 7 + 4, none⟩ = some (.int .i64 c.dk) ∧ w'.cell? ⟨b, off + i * 7 + 5, none⟩ = some (.int .i64 c.dn) ∧ w'.cell? ⟨b, off + i * 7 + 6, none⟩ = some (.string c.ds.1)) _ _ _ _ ?_)
        rw [← hVd]
        clear hVd hd0 hd1 hd2 hd3 hd4 hd5 hd6
        refine wpAnyC_reads 0 cD (by kernel_rfl) (by kernel_rfl) (by kernel_rfl) (fun d _ _ _ _ h => by cases d <;> exact h) (fun oi ho K hK => ?_)
        simp only [List.getElem?_toArray, List.getElem?_cons_zero, Option.some.injEq] at ho
        subst ho
        rw [if_pos (by kernel_rfl)]
        refine ⟨.pointer (some ⟨Bp, 0, none⟩), fun w' hw' => ?_, hK _ ?_⟩
        · obtain ⟨k0, k1, k2, k3, k4, k5, k6⟩ := hw'
          go_simp
        clear hK K
        refine wpAnyC_reads 1 cD (by kernel_rfl) (by kernel_rfl) (by kernel_rfl) (fun d _ _ _ _ h => by cases d <;> exact h) (fun oi ho K hK => ?_)
        simp only [List.getElem?_toArray, List.getElem?_cons_succ, List.getElem?_cons_zero, Option.some.injEq] at ho
        subst ho
        rw [if_pos (by kernel_rfl)]
        refine ⟨.slice (some ⟨b, off, none⟩) ls.length capl, fun w' hw' => ?_, hK _ ?_⟩
        · obtain ⟨k0, k1, k2, k3, k4, k5, k6⟩ := hw'
          go_simp
        clear hK K
        refine wpAnyC_reads 2 cD (by kernel_rfl) (by kernel_rfl) (by kernel_rfl) (fun d _ _ _ _ h => by cases d <;> exact h) (fun oi ho K hK => ?_)
        simp only [List.getElem?_toArray, List.getElem?_cons_succ, List.getElem?_cons_zero, Option.some.injEq] at ho
        subst ho
        rw [if_pos (by kernel_rfl)]
        refine ⟨.int .i64 i, fun w' hw' => ?_, hK _ ?_⟩
        · obtain ⟨k0, k1, k2, k3, k4, k5, k6⟩ := hw'
          go_simp
        clear hK K
        refine wpAnyC_reads 3 cD (by kernel_rfl) (by kernel_rfl) (by kernel_rfl) (fun d _ _ _ _ h => by cases d <;> exact h) (fun oi ho K hK => ?_)
        simp only [List.getElem?_toArray, List.getElem?_cons_succ, List.getElem?_cons_zero, Option.some.injEq] at ho
        subst ho
        rw [if_pos (by kernel_rfl)]
        refine ⟨.pointer (some ⟨b, off + i * 7, none⟩), fun w' hw' => ?_, hK _ ?_⟩
        · obtain ⟨k0, k1, k2, k3, k4, k5, k6⟩ := hw'
          go_simp
        clear hK K
        refine wpAnyC_reads 4 cD (by kernel_rfl) (by kernel_rfl) (by kernel_rfl) (fun d _ _ _ _ h => by cases d <;> exact h) (fun oi ho K hK => ?_)
        simp only [List.getElem?_toArray, List.getElem?_cons_succ, List.getElem?_cons_zero, Option.some.injEq] at ho
        subst ho
        rw [if_pos (by kernel_rfl)]
        refine ⟨c.v, fun w' hw' => ?_, hK _ ?_⟩
        · obtain ⟨k0, k1, k2, k3, k4, k5, k6⟩ := hw'
          go_simp
        clear hK K
        refine wpAnyC_reads 7 cD (by kernel_rfl) (by kernel_rfl) (by kernel_rfl) (fun d _ _ _ _ h => by cases d <;> exact h) (fun oi ho K hK => ?_)
        simp only [List.getElem?_toArray, List.getElem?_cons_succ, List.getElem?_cons_zero, Option.some.injEq] at ho
        subst ho
        rw [if_pos (by kernel_rfl)]
        refine ⟨.pointer (some ⟨Br, 0, none⟩), fun w' hw' => ?_, hK _ ?_⟩
        · obtain ⟨k0, k1, k2, k3, k4, k5, k6⟩ := hw'
          go_simp
        clear hK K
        refine wpAnyC_reads 8 cD (by kernel_rfl) (by kernel_rfl) (by kernel_rfl) (fun d _ _ _ _ h => by cases d <;> exact h) (fun oi ho K hK => ?_)
        simp only [List.getElem?_toArray, List.getElem?_cons_succ, List.getElem?_cons_zero, Option.some.injEq] at ho
        subst ho
        rw [if_pos (by kernel_rfl)]
        refine ⟨.slice (some ⟨b, off, none⟩) ls.length capl, fun w' hw' => ?_, hK _ ?_⟩
        · obtain ⟨k0, k1, k2, k3, k4, k5, k6⟩ := hw'
          go_simp
        clear hK K
        refine wpAnyC_reads 9 cD (by kernel_rfl) (by kernel_rfl) (by kernel_rfl) (fun d _ _ _ _ h => by cases d <;> exact h) (fun oi ho K hK => ?_)
        simp only [List.getElem?_toArray, List.getElem?_cons_succ, List.getElem?_cons_zero, Option.some.injEq] at ho
        subst ho
        rw [if_pos (by kernel_rfl)]
        refine ⟨.int .i64 i, fun w' hw' => ?_, hK _ ?_⟩
        · obtain ⟨k0, k1, k2, k3, k4, k5, k6⟩ := hw'
          go_simp
        clear hK K
        refine wpAnyC_reads 10 cD (by kernel_rfl) (by kernel_rfl) (by kernel_rfl) (fun d _ _ _ _ h => by cases d <;> exact h) (fun oi ho K hK => ?_)
        simp only [List.getElem?_toArray, List.getElem?_cons_succ, List.getElem?_cons_zero, Option.some.injEq] at ho
        subst ho
        rw [if_pos (by kernel_rfl)]
        refine ⟨.pointer (some ⟨b, off + i * 7, none⟩), fun w' hw' => ?_, hK _ ?_⟩
        · obtain ⟨k0, k1, k2, k3, k4, k5, k6⟩ := hw'
          go_simp
        clear hK K
        refine wpAnyC_reads 11 cD (by kernel_rfl) (by kernel_rfl) (by kernel_rfl) (fun d _ _ _ _ h => by cases d <;> exact h) (fun oi ho K hK => ?_)
        simp only [List.getElem?_toArray, List.getElem?_cons_succ, List.getElem?_cons_zero, Option.some.injEq] at ho
        subst ho
        rw [if_pos (by kernel_rfl)]
        refine ⟨c.v, fun w' hw' => ?_, hK _ ?_⟩
        · obtain ⟨k0, k1, k2, k3, k4, k5, k6⟩ := hw'
          go_simp
        clear hK K
        refine wpAnyC_calls 5 (by kernel_rfl) (fun oi ho K hK => ?_)
        simp only [List.getElem?_toArray, List.getElem?_cons_succ, List.getElem?_cons_zero, Option.some.injEq] at ho
        subst ho
        go_simp
        refine (unhide cA).mono ?_
        rintro e w5 ⟨rfl, hleft, hk5, hbel⟩
        go_simp
        have bw5 := bwV.trans (hbel w.heap.size (Nat.le_trans bw2.size hBp))
        have b25 := (hb.trans (bV.mono hb.size)).trans (hbel w2.heap.size hBp)
        have R5 := ((RV.apart hk5 CV.box).mono hk5.size)
        obtain ⟨ac5, capc5, C5⟩ := left_c hleft
        rw [← unhide hcs2] at C5
        have cE := unhide cel w5 bw5 bwr
        clear cA hleft hbel
        refine hK _ _ cE ?_
        clear hK K
        refine wpAnyC_calls 6 (by kernel_rfl) (fun oi ho K hK => ?_)
        simp only [List.getElem?_toArray, List.getElem?_cons_succ, List.getElem?_cons_zero, Option.some.injEq] at ho
        subst ho
        go_simp
        refine (code_e r w5 (unhide hgB _ bw5)).mono ?_
        rintro e w6 ⟨rfl, hb6⟩
        go_simp
        have bw6 := bw5.trans (hb6.mono bw5.size)
        have b26 := b25.trans (hb6.mono b25.size)
        have R6 := (R5.on hb6).mono hb6.size
        have C6 := (C5.on hb6).mono hb6.size
        have cF := unhide cel w6 bw6 bwr
        refine hK _ _ cF ?_
        clear hK K cE
        have cB := hide (rchAdd_c Br sc lc sa la xs ts cs c hS h20 w6 R6)
        rw [← unhide hr] at cB
        refine wpAnyC_calls 12 (by kernel_rfl) (fun oi ho K hK => ?_)
        simp only [List.getElem?_toArray, List.getElem?_cons_succ, List.getElem?_cons_zero, Option.some.injEq] at ho
        subst ho
        go_simp
        refine (unhide cB).mono ?_
        rintro e w7 ⟨rfl, hleft, hk7, hbel⟩
        go_simp
        have bw7 := bw6.trans (hbel w.heap.size (Nat.le_trans bw2.size hBr2))
        have b27 := b26.trans (hbel w2.heap.size hBr2)
        have C7 := (C6.apart hk7 R6.box).mono hk7.size
        obtain ⟨sa7, la7, sc7, lc7, xs7, R7⟩ := left_r hleft
        rw [← unhide hcs2] at R7
        have cD := unhide cel w7 bw7 bwr
        clear cB hleft hbel
        refine hK _ _ cD ?_
        clear hK K cF
        refine wpAnyC_calls 13 (by kernel_rfl) (fun oi ho K hK => ?_)
        simp only [List.getElem?_toArray, List.getElem?_cons_succ, List.getElem?_cons_zero, Option.some.injEq] at ho
        subst ho
        go_simp
        refine hK _ _ cD ?_
        clear hK K
        refine wpAnyC_calls 14 (by kernel_rfl) (fun oi ho K hK => ?_)
        simp only [List.getElem?_toArray, List.getElem?_cons_succ, List.getElem?_cons_zero, Option.some.injEq] at ho
        subst ho
        go_simp
        refine hK _ _ cD ?_
        clear hK K
        refine wpAnyC_reads 15 cD (by kernel_rfl) (by kernel_rfl) (by kernel_rfl) (fun d _ _ _ _ h => by cases d <;> exact h) (fun oi ho K hK => ?_)
        simp only [List.getElem?_toArray, List.getElem?_cons_succ, List.getElem?_cons_zero, Option.some.injEq] at ho
        subst ho
        rw [if_pos (by kernel_rfl)]
        refine ⟨.pointer (some ⟨Bp, 0, none⟩), fun w' hw' => ?_, hK _ ?_⟩
        · obtain ⟨k0, k1, k2, k3, k4, k5, k6⟩ := hw'
          go_simp
        clear hK K
        refine wpAnyC_reads 17 cD (by kernel_rfl) (by kernel_rfl) (by kernel_rfl) (fun d _ _ _ _ h => by cases d <;> exact h) (fun oi ho K hK => ?_)
        simp only [List.getElem?_toArray, List.getElem?_cons_succ, List.getElem?_cons_zero, Option.some.injEq] at ho
        subst ho
        rw [if_pos (by kernel_rfl)]
        refine ⟨.pointer (some ⟨Br, 0, none⟩), fun w' hw' => ?_, hK _ ?_⟩
        · obtain ⟨k0, k1, k2, k3, k4, k5, k6⟩ := hw'
          go_simp
        clear hK K
        refine wpAnyC_reads 18 cD (by kernel_rfl) (by kernel_rfl) (by kernel_rfl) (fun d _ _ _ _ h => by cases d <;> exact h) (fun oi ho K hK => ?_)
        simp only [List.getElem?_toArray, List.getElem?_cons_succ, List.getElem?_cons_zero, Option.some.injEq] at ho
        subst ho
        rw [if_pos (by kernel_rfl)]
        refine ⟨.pointer (some ⟨Br, 0, none⟩), fun w' hw' => ?_, hK _ ?_⟩
        · obtain ⟨k0, k1, k2, k3, k4, k5, k6⟩ := hw'
          go_simp
        clear hK K
        refine wpAnyC_reads 19 cD (by kernel_rfl) (by kernel_rfl) (by kernel_rfl) (fun d _ _ _ _ h => by cases d <;> exact h) (fun oi ho K hK => ?_)
        simp only [List.getElem?_toArray, List.getElem?_cons_succ, List.getElem?_cons_zero, Option.some.injEq] at ho
        subst ho
        rw [if_pos (by kernel_rfl)]
        refine ⟨.pointer (some ⟨Br, 1, none⟩), fun w' hw' => ?_, hK _ ?_⟩
        · obtain ⟨k0, k1, k2, k3, k4, k5, k6⟩ := hw'
          go_simp
        clear hK K
        have q1 : w7.cell? ⟨Br, 1, none⟩ = some (.slice la7 cs2.length lc7) := R7.box.two.2
        refine wpAnyC_two 16 20 (by kernel_rfl) (fun oi ho K hK => ?_) (fun oi ho K hK => ?_)
        · simp only [List.getElem?_toArray, List.getElem?_cons_succ, List.getElem?_cons_zero, Option.some.injEq] at ho
          subst ho
          go_simp
          refine (now_c Bp cap' capc5 a' ac5 ts cs2 w7 C7).mono ?_
          rintro e w8 ⟨rfl, ew⟩
          rw [ew]
          clear ew w8
          go_simp
          refine hK _ _ cD ?_
          clear hK K
          refine wpAnyC_calls 20 (by kernel_rfl) (fun oi ho K hK => ?_)
          simp only [List.getElem?_toArray, List.getElem?_cons_succ, List.getElem?_cons_zero, Option.some.injEq] at ho
          subst ho
          go_simp
          refine hK _ _ cD ?_
          clear hK K
          refine wpAnyC_calls 21 (by kernel_rfl) (fun oi ho K hK => ?_)
          simp only [List.getElem?_toArray, List.getElem?_cons_succ, List.getElem?_cons_zero, Option.some.injEq] at ho
          subst ho
          go_simp
          refine hK _ _ cD ?_
          clear hK K
          refine wpAnyC_calls 22 (by kernel_rfl) (fun oi ho K hK => ?_)
          simp only [List.getElem?_toArray, List.getElem?_cons_succ, List.getElem?_cons_zero, Option.some.injEq] at ho
          subst ho
          go_simp
          refine hK _ _ cD ?_
          clear hK K
          refine wpAnyC_calls 23 (by kernel_rfl) (fun oi ho K hK => ?_)
          simp only [List.getElem?_toArray, List.getElem?_cons_succ, List.getElem?_cons_zero, Option.some.injEq] at ho
          subst ho
          go_simp
          refine hK _ _ cD ?_
          clear hK K
          refine wpAnyC_done (by kernel_rfl) ?_ _
          go_wp2_with fail
          go_meet
          case rel => exact ⟨rfl, hide ⟨cs2, ac5, capc5, sa7, la7, sc7, lc7, xs7, hlen, hTk2, C7, R7⟩, b27⟩
        · simp only [List.getElem?_toArray, List.getElem?_cons_succ, List.getElem?_cons_zero, Option.some.injEq] at ho
          subst ho
          go_simp
          refine hK _ _ cD ?_
          clear hK K
          refine wpAnyC_reads 21 cD (by kernel_rfl) (by kernel_rfl) (by kernel_rfl) (fun d _ _ _ _ h => by cases d <;> exact h) (fun oi ho K hK => ?_)
          simp only [List.getElem?_toArray, List.getElem?_cons_succ, List.getElem?_cons_zero, Option.some.injEq] at ho
          subst ho
          rw [if_pos (by kernel_rfl)]
          refine ⟨.int .i64 cs2.length, fun w' hw' => ?_, hK _ ?_⟩
          · obtain ⟨k0, k1, k2, k3, k4, k5, k6⟩ := hw'
            go_simp
          clear hK K
          refine wpAnyC_calls 16 (by kernel_rfl) (fun oi ho K hK => ?_)
          simp only [List.getElem?_toArray, List.getElem?_cons_succ, List.getElem?_cons_zero, Option.some.injEq] at ho
          subst ho
          go_simp
          refine (now_c Bp cap' capc5 a' ac5 ts cs2 w7 C7).mono ?_
          rintro e w8 ⟨rfl, ew⟩
          rw [ew]
          clear ew w8
          go_simp
          refine hK _ _ cD ?_
          clear hK K
          refine wpAnyC_calls 22 (by kernel_rfl) (fun oi ho K hK => ?_)
          simp only [List.getElem?_toArray, List.getElem?_cons_succ, List.getElem?_cons_zero, Option.some.injEq] at ho
          subst ho
          go_simp
          refine hK _ _ cD ?_
          clear hK K
          refine wpAnyC_calls 23 (by kernel_rfl) (fun oi ho K hK => ?_)
          simp only [List.getElem?_toArray, List.getElem?_cons_succ, List.getElem?_cons_zero, Option.some.injEq] at ho
          subst ho
          go_simp
          refine hK _ _ cD ?_
          clear hK K
          refine wpAnyC_done (by kernel_rfl) ?_ _
          go_wp2_with fail
          go_meet
          case rel => exact ⟨rfl, hide ⟨cs2, ac5, capc5, sa7, la7, sc7, lc7, xs7, hlen, hTk2, C7, R7⟩, b27⟩
      case rest =>
        obtain ⟨rfl, hC2, hb2⟩ := hcut
        go_wp2_with fail
        exact ⟨⟨i + 1, by omega, by go_num, hC2, hb2⟩, by simp [intOf]; omega⟩
    · obtain rfl : i = ls.length := by omega
      obtain ⟨cs, ac, capc, sa, la, sc, lc, xs, h20, hTk, C, R⟩ := unhide hC
      clear hC
      have hmx : Tryz.prog.follows .mixedOrders = true := by kernel_rfl
      obtain ⟨he0, he1, he2⟩ := (z9.on hb z9.lt).three
      have hge : ¬ ((ls.length : Int) < ls.length) := by omega
      obtain ⟨⟨y, r⟩, hY⟩ : ∃ Y, Y = mvP ts cs x f g := ⟨_, rfl⟩
      have hy20 : y.vs.length ≤ 20 := by
        have := mvP_len hS hv20 (ts := ts) (cs := cs) f g
        rwa [← hY] at this
      obtain ⟨bs, bo, hB⟩ := backA_form ts cs ty' fd' f g
      obtain ⟨⟨us, p⟩, hU⟩ : ∃ Y, Y = atP ts cs g := ⟨_, rfl⟩
      have hu5 := atP_five hS cs g
      rw [← hU] at hu5
      have cM := hide (chMove_c Bp cap' capc a' ac ts cs x.ty x.ts x.vs av cv f g hS h20 hv20 wr C (hV.on bwr))
      go_wp2_with fail
      refine (unhide cM).mono ?_
      rintro e w5 ⟨hM, hb5⟩
      obtain ⟨a5, c5, rfl, V5⟩ := move_got hM
      rw [show (⟨x.ty, x.ts, x.vs⟩ : Ev) = x from rfl, ← hY] at V5 ⊢
      simp only at V5 ⊢
      clear hM cM he0 he1 he2
      obtain ⟨W6, hW6⟩ : ∃ W6, W6 = w5.alloc (.cells #[.string y.ty.1, .int .i64 y.ts, .slice a5 y.vs.length c5] 28) := ⟨_, rfl⟩
      have b6 : Below w5.heap.size w5 W6 := by rw [hW6]; exact (Below.refl _ _).alloc (Nat.le_refl _) _
      have x20 : Box W6 w5.heap.size 28 #[.string y.ty.1, .int .i64 y.ts, .slice a5 y.vs.length c5] := by rw [hW6]; exact Box.new _ _ _
      replace V5 := V5.on b6
      have r6 : Below wr.heap.size wr W6 := hb5.trans (b6.mono hb5.size)
      obtain ⟨he0, he1, he2⟩ := ((z9.on hb z9.lt).on r6 (z9.on hb z9.lt).lt).three
      have bw6 : Below w.heap.size w W6 := bwr.trans (r6.mono bwr.size)
      have cR := hide (rmove_c Br sc lc sa la xs ts cs x.ty x.ts x.vs av cv f g hS h20 hv20 W6 ((R.on r6).mono r6.size) (hV.on bw6))
      go_upto_region 17 with fail
      rw [← hW6]
      clear hW6
      go_wp2_with fail
      refine (unhide cR).mono ?_
      rintro e w7 ⟨hM, hb7⟩
      obtain ⟨a7, c7, rfl, V7⟩ := rmove_got hM
      rw [show (⟨x.ty, x.ts, x.vs⟩ : Ev) = x from rfl, ← hY] at V7 ⊢
      simp only at V7 ⊢
      clear hM cR he0 he1 he2
      obtain ⟨W8, hW8⟩ : ∃ W8, W8 = w7.alloc (.cells #[.string y.ty.1, .int .i64 y.ts, .slice a7 y.vs.length c7] 28) := ⟨_, rfl⟩
      have b8 : Below w7.heap.size w7 W8 := by rw [hW8]; exact (Below.refl _ _).alloc (Nat.le_refl _) _
      have x22 : Box W8 w7.heap.size 28 #[.string y.ty.1, .int .i64 y.ts, .slice a7 y.vs.length c7] := by rw [hW8]; exact Box.new _ _ _
      replace V7 := V7.on b8
      have r8 : Below wr.heap.size wr W8 := (r6.trans (hb7.mono r6.size)).trans (b8.mono (Nat.le_trans r6.size hb7.size))
      have q68 : Below W6.heap.size W6 W8 := hb7.trans (b8.mono hb7.size)
      have cB := hide (chBack_c Bp cap' capc a' ac ts cs ty' fd' f g hS h20 W8 ((C.on r8).mono r8.size))
      rw [hB] at cB
      go_upto_region 18 with fail
      rw [← hW8]
      clear hW8
      go_wp2_with fail
      refine (unhide cB).mono ?_
      rintro e w9 ⟨rfl, hb9⟩
      clear cB
      have r9 : Below wr.heap.size wr w9 := r8.trans (hb9.mono r8.size)
      have cB := hide (rback_c Br sc lc sa la xs ts cs ty' fd' f g hS h20 w9 ((R.on r9).mono r9.size))
      rw [rback_same hS hTk, hB] at cB
      go_wp2_with fail
      refine (unhide cB).mono ?_
      rintro e wb ⟨rfl, hbb⟩
      clear cB
      have rb : Below wr.heap.size wr wb := r9.trans (hbb.mono r9.size)
      have q8b : Below W8.heap.size W8 wb := hb9.trans (hbb.mono hb9.size)
      have cT := hide (at_c Bp cap' capc a' ac ts cs g hS h20 wb ((C.on rb).mono rb.size))
      go_wp2_with fail
      refine (unhide cT).mono ?_
      rintro e w10 ⟨hA, hb10⟩
      obtain ⟨a10, c10, rfl, T10⟩ := at_got hS hA
      rw [← hU] at T10 ⊢
      simp only at T10 ⊢
      clear hA cT
      obtain ⟨Wa, hWa⟩ : ∃ Wa, Wa = w10.alloc (.cells #[.slice a10 us.length c10] 24) := ⟨_, rfl⟩
      have ba : Below w10.heap.size w10 Wa := by rw [hWa]; exact (Below.refl _ _).alloc (Nat.le_refl _) _
      have x28 : Box Wa w10.heap.size 24 #[.slice a10 us.length c10] := by rw [hWa]; exact Box.new _ _ _
      replace T10 := T10.on ba
      have ra : Below wr.heap.size wr Wa := (rb.trans (hb10.mono rb.size)).trans (ba.mono (Nat.le_trans rb.size hb10.size))
      have qba : Below wb.heap.size wb Wa := hb10.trans (ba.mono hb10.size)
      have cT := hide (refAt_c Br sc lc sa la xs ts cs g h20 Wa ((R.on ra).mono ra.size))
      go_upto_region 21 with fail
      rw [← hWa]
      clear hWa
      go_wp2_with fail
      refine (unhide cT).mono ?_
      rintro e w11 ⟨hb11, hA⟩
      obtain ⟨a12, c12, rfl, T12⟩ := refAt_got hA
      rw [← hU] at T12 ⊢
      simp only at T12 ⊢
      clear hA cT
      obtain ⟨WF, hWF⟩ : ∃ WF, WF = w11.alloc (.cells #[.slice a12 us.length c12] 24) := ⟨_, rfl⟩
      have bF : Below w11.heap.size w11 WF := by rw [hWF]; exact (Below.refl _ _).alloc (Nat.le_refl _) _
      replace x30 : Box WF w11.heap.size 24 #[.slice a12 us.length c12] := by rw [hWF]; exact Box.new _ _ _
      replace T12 := T12.on bF
      have qaF : Below Wa.heap.size Wa WF := hb11.trans (bF.mono hb11.size)
      have qbF : Below wb.heap.size wb WF := qba.trans (qaF.mono qba.size)
      have q8F : Below W8.heap.size W8 WF := q8b.trans (qbF.mono q8b.size)
      have q6F : Below W6.heap.size W6 WF := q68.trans (q8F.mono q68.size)
      have rF : Below wr.heap.size wr WF := ra.trans (qaF.mono ra.size)
      have bwF : Below w.heap.size w WF := bwr.trans (rF.mono bwr.size)
      replace x20 := x20.on q6F x20.lt
      replace x22 := x22.on q8F x22.lt
      replace x28 := x28.on qaF x28.lt
      replace V5 := V5.on q6F
      replace V7 := V7.on q8F
      replace T10 := T10.on qaF
      have CF := (C.on rF).mono rF.size
      have RF := (R.on rF).mono rF.size
      go_upto_region 22 with fail
      rw [← hWF]
      clear hWF
      obtain ⟨V, hVd⟩ : ∃ V, V = ({ heap := WF.heap, tape := WF.tape, drawn := WF.drawn + 1, os := WF.os, output := WF.output } : World) := ⟨_, rfl⟩
      have bV : Below WF.heap.size WF V := by rw [hVd]; exact (Below.refl _ _).drew
      refine wp_region_any hmx ?_
      rw [← hVd]
      clear hVd
      refine wpAny_facts (fun x y => Below x.heap.size x y) (fun x => Below.refl _ _) (fun h k => h.trans (k.mono h.size)) (fun i v _ => (([fun v => v = errE r, fun v => v = .int .i64 r, fun v => v = .int .i64 r, fun v => v = .bool true, fun v => v = .bool true, fun v => v = evV y a5 c5, fun v => v = evV y a7 c7, fun v => v = .bool true, fun v => v = .bool true, fun v => v = .bool true, fun v => v = .string bs, fun v => v = .string bs, fun v => v = .bool true, fun v => v = .bool true, fun v => v = .bool true, fun v => v = .bool bo, fun v => v = .bool bo, fun v => v = .bool true, fun v => v = .bool true, fun v => v = .bool true, fun v => v = .bool p, fun v => v = .bool p, fun v => v = .bool true, fun v => v = .bool true, fun v => v = .bool true, fun v => v = .agg #[.slice a10 us.length c10], fun v => v = .agg #[.slice a12 us.length c12], fun v => v = .bool true, fun v => v = .bool true, fun v => v = .bool true, fun v => v = .pointer (some ⟨Bp, 0, none⟩), fun v => ∃ a c, v = .slice a cs.length c, fun v => v = .int .i64 cs.length, fun v => v = .pointer (some ⟨Br, 0, none⟩), fun v => v = .pointer (some ⟨Br, 0, none⟩), fun v => v = .pointer (some ⟨Br, 1, none⟩), fun v => v = .slice la cs.length lc, fun v => v = .int .i64 cs.length, fun v => v = .bool true, fun v => v = .bool true, fun v => v = .bool true] : List (Value → Prop)).getD i (fun _ => True)) v) (fun i v w' w'' h _ => by exact h) _ V (by kernel_rfl) (by kernel_rfl) ?hstep ?hdone
      case hstep =>
        rintro listed aa w' i oi F hr ho
        have bV' : Below WF.heap.size WF w' := bV.trans (F.bel.mono bV.size)
        have bw : Below w.heap.size w w' := bwF.trans (bV'.mono bwF.size)
        have hi := (Array.getElem?_eq_some_iff.1 ho).1
        obtain rfl | rfl | rfl | rfl | rfl | rfl | rfl | rfl | rfl | rfl | rfl | rfl | rfl | rfl | rfl | rfl | rfl | rfl | rfl | rfl | rfl | rfl | rfl | rfl | rfl | rfl | rfl | rfl | rfl | rfl | rfl | rfl | rfl | rfl | rfl | rfl | rfl | rfl | rfl | rfl | rfl : i = 0 ∨ i = 1 ∨ i = 2 ∨ i = 3 ∨ i = 4 ∨ i = 5 ∨ i = 6 ∨ i = 7 ∨ i = 8 ∨ i = 9 ∨ i = 10 ∨ i = 11 ∨ i = 12 ∨ i = 13 ∨ i = 14 ∨ i = 15 ∨ i = 16 ∨ i = 17 ∨ i = 18 ∨ i = 19 ∨ i = 20 ∨ i = 21 ∨ i = 22 ∨ i = 23 ∨ i = 24 ∨ i = 25 ∨ i = 26 ∨ i = 27 ∨ i = 28 ∨ i = 29 ∨ i = 30 ∨ i = 31 ∨ i = 32 ∨ i = 33 ∨ i = 34 ∨ i = 35 ∨ i = 36 ∨ i = 37 ∨ i = 38 ∨ i = 39 ∨ i = 40 := by simp at hi; omega
        all_goals
          simp only [List.getElem?_toArray, List.getElem?_cons_succ, List.getElem?_cons_zero, Option.some.injEq] at ho
          subst ho
        · refine ⟨wanted_none rfl, ?_⟩
          have s21 : aa.tmps.getD 21 undef = errE r := (F.old 21 (noDst_spec (by kernel_rfl))).trans rfl
          refine stepV_read (errE r) rfl ?_
          simp only [execOp, eval_tmp, s21]
          go_simp
        · refine ⟨wanted_none rfl, ?_⟩
          have d0 : aa.tmps.getD 170 undef = errE r := F.got 0 _ 170 rfl (ready_dep hr 0 (by kernel_rfl)) rfl
          have d0' := d0
          rw [Array.getD_eq_getD_getElem?] at d0'
          exact stepV_call 10 _ _ rfl (enters_of Tryz.func10 (by kernel_rfl) rfl) #[errE r] (by simp [Act.eval, d0']) ((code_e r w' (unhide hgB _ bw)).mono fun e w'' h => ⟨_, h.1, rfl, h.2⟩)
        · refine ⟨wanted_none rfl, ?_⟩
          have s23 : aa.tmps.getD 23 undef = .int .i64 r := (F.old 23 (noDst_spec (by kernel_rfl))).trans rfl
          refine stepV_read (.int .i64 r) rfl ?_
          simp only [execOp, eval_tmp, s23]
          go_simp
        · refine ⟨wanted_none rfl, ?_⟩
          have d1 : aa.tmps.getD 171 undef = .int .i64 r := F.got 1 _ 171 rfl (ready_dep hr 1 (by kernel_rfl)) rfl
          have d2 : aa.tmps.getD 172 undef = .int .i64 r := F.got 2 _ 172 rfl (ready_dep hr 2 (by kernel_rfl)) rfl
          refine stepV_read (.bool true) rfl ?_
          simp only [execOp, eval_tmp, d1, d2]
          go_simp
        · refine ⟨wanted_none rfl, ?_⟩
          have d3 : aa.tmps.getD 173 undef = .bool true := F.got 3 _ 173 rfl (ready_dep hr 3 (by kernel_rfl)) rfl
          refine stepV_read (.bool true) rfl ?_
          simp only [execOp, eval_tmp, d3]
          go_simp
        · refine ⟨wanted_some (g := 4) (d := 174) rfl rfl rfl (F.got 4 _ 174 rfl (ready_dep hr 4 (by kernel_rfl)) rfl), ?_⟩
          have s20 : aa.tmps.getD 20 undef = .pointer (some ⟨w5.heap.size, 0, none⟩) := (F.old 20 (noDst_spec (by kernel_rfl))).trans rfl
          obtain ⟨k0, k1, k2⟩ := (x20.on bV' x20.lt).three
          refine stepV_read (evV y a5 c5) rfl ?_
          simp only [execOp, eval_tmp, s20]
          go_simp
        · refine ⟨wanted_some (g := 4) (d := 174) rfl rfl rfl (F.got 4 _ 174 rfl (ready_dep hr 4 (by kernel_rfl)) rfl), ?_⟩
          have s22 : aa.tmps.getD 22 undef = .pointer (some ⟨w7.heap.size, 0, none⟩) := (F.old 22 (noDst_spec (by kernel_rfl))).trans rfl
          obtain ⟨k0, k1, k2⟩ := (x22.on bV' x22.lt).three
          refine stepV_read (evV y a7 c7) rfl ?_
          simp only [execOp, eval_tmp, s22]
          go_simp
        · refine ⟨wanted_some (g := 4) (d := 174) rfl rfl rfl (F.got 4 _ 174 rfl (ready_dep hr 4 (by kernel_rfl)) rfl), ?_⟩
          have d5 : aa.tmps.getD 175 undef = evV y a5 c5 := F.got 5 _ 175 rfl (ready_dep hr 5 (by kernel_rfl)) rfl
          have d5' := d5
          rw [Array.getD_eq_getD_getElem?] at d5'
          have d6 : aa.tmps.getD 176 undef = evV y a7 c7 := F.got 6 _ 176 rfl (ready_dep hr 6 (by kernel_rfl)) rfl
          have d6' := d6
          rw [Array.getD_eq_getD_getElem?] at d6'
          exact stepV_call 20 _ _ rfl (enters_of Tryz.func20 (by kernel_rfl) rfl) #[evV y a5 c5, evV y a7 c7] (by simp [Act.eval, d5', d6']) ((refSame_c y y a5 a7 c5 c7 hy20 hy20 w' (V5.on bV') (V7.on bV')).mono fun e w'' h => ⟨_, h.1, (show Value.bool (sameE y y) = Value.bool true by rw [sameE_self]), h.2⟩)
        · refine ⟨wanted_none rfl, ?_⟩
          have d4 : aa.tmps.getD 174 undef = .bool true := F.got 4 _ 174 rfl (ready_dep hr 4 (by kernel_rfl)) rfl
          have d7 : aa.tmps.getD 177 undef = .bool true := F.got 7 _ 177 rfl (ready_dep hr 7 (by kernel_rfl)) rfl
          refine stepV_read (.bool true) rfl ?_
          simp only [execOp, eval_tmp, d4, d7]
          go_simp
        · refine ⟨wanted_none rfl, ?_⟩
          have d8 : aa.tmps.getD 178 undef = .bool true := F.got 8 _ 178 rfl (ready_dep hr 8 (by kernel_rfl)) rfl
          refine stepV_read (.bool true) rfl ?_
          simp only [execOp, eval_tmp, d8]
          go_simp
        · refine ⟨wanted_some (g := 9) (d := 179) rfl rfl rfl (F.got 9 _ 179 rfl (ready_dep hr 9 (by kernel_rfl)) rfl), ?_⟩
          have s24 : aa.tmps.getD 24 undef = .string bs := (F.old 24 (noDst_spec (by kernel_rfl))).trans rfl
          refine stepV_read (.string bs) rfl ?_
          simp only [execOp, eval_tmp, s24]
          go_simp
        · refine ⟨wanted_some (g := 9) (d := 179) rfl rfl rfl (F.got 9 _ 179 rfl (ready_dep hr 9 (by kernel_rfl)) rfl), ?_⟩
          have s26 : aa.tmps.getD 26 undef = .string bs := (F.old 26 (noDst_spec (by kernel_rfl))).trans rfl
          refine stepV_read (.string bs) rfl ?_
          simp only [execOp, eval_tmp, s26]
          go_simp
        · refine ⟨wanted_some (g := 9) (d := 179) rfl rfl rfl (F.got 9 _ 179 rfl (ready_dep hr 9 (by kernel_rfl)) rfl), ?_⟩
          have d10 : aa.tmps.getD 180 undef = .string bs := F.got 10 _ 180 rfl (ready_dep hr 10 (by kernel_rfl)) rfl
          have d11 : aa.tmps.getD 181 undef = .string bs := F.got 11 _ 181 rfl (ready_dep hr 11 (by kernel_rfl)) rfl
          refine stepV_read (.bool true) rfl ?_
          simp only [execOp, eval_tmp, d10, d11]
          go_simp
        · refine ⟨wanted_none rfl, ?_⟩
          have d9 : aa.tmps.getD 179 undef = .bool true := F.got 9 _ 179 rfl (ready_dep hr 9 (by kernel_rfl)) rfl
          have d12 : aa.tmps.getD 182 undef = .bool true := F.got 12 _ 182 rfl (ready_dep hr 12 (by kernel_rfl)) rfl
          refine stepV_read (.bool true) rfl ?_
          simp only [execOp, eval_tmp, d9, d12]
          go_simp
        · refine ⟨wanted_none rfl, ?_⟩
          have d13 : aa.tmps.getD 183 undef = .bool true := F.got 13 _ 183 rfl (ready_dep hr 13 (by kernel_rfl)) rfl
          refine stepV_read (.bool true) rfl ?_
          simp only [execOp, eval_tmp, d13]
          go_simp
        · refine ⟨wanted_some (g := 14) (d := 184) rfl rfl rfl (F.got 14 _ 184 rfl (ready_dep hr 14 (by kernel_rfl)) rfl), ?_⟩
          have s25 : aa.tmps.getD 25 undef = .bool bo := (F.old 25 (noDst_spec (by kernel_rfl))).trans rfl
          refine stepV_read (.bool bo) rfl ?_
          simp only [execOp, eval_tmp, s25]
          go_simp
        · refine ⟨wanted_some (g := 14) (d := 184) rfl rfl rfl (F.got 14 _ 184 rfl (ready_dep hr 14 (by kernel_rfl)) rfl), ?_⟩
          have s27 : aa.tmps.getD 27 undef = .bool bo := (F.old 27 (noDst_spec (by kernel_rfl))).trans rfl
          refine stepV_read (.bool bo) rfl ?_
          simp only [execOp, eval_tmp, s27]
          go_simp
        · refine ⟨wanted_some (g := 14) (d := 184) rfl rfl rfl (F.got 14 _ 184 rfl (ready_dep hr 14 (by kernel_rfl)) rfl), ?_⟩
          have d15 : aa.tmps.getD 185 undef = .bool bo := F.got 15 _ 185 rfl (ready_dep hr 15 (by kernel_rfl)) rfl
          have d16 : aa.tmps.getD 186 undef = .bool bo := F.got 16 _ 186 rfl (ready_dep hr 16 (by kernel_rfl)) rfl
          refine stepV_read (.bool true) rfl ?_
          simp only [execOp, eval_tmp, d15, d16]
          go_simp
        · refine ⟨wanted_none rfl, ?_⟩
          have d14 : aa.tmps.getD 184 undef = .bool true := F.got 14 _ 184 rfl (ready_dep hr 14 (by kernel_rfl)) rfl
          have d17 : aa.tmps.getD 187 undef = .bool true := F.got 17 _ 187 rfl (ready_dep hr 17 (by kernel_rfl)) rfl
          refine stepV_read (.bool true) rfl ?_
          simp only [execOp, eval_tmp, d14, d17]
          go_simp
        · refine ⟨wanted_none rfl, ?_⟩
          have d18 : aa.tmps.getD 188 undef = .bool true := F.got 18 _ 188 rfl (ready_dep hr 18 (by kernel_rfl)) rfl
          refine stepV_read (.bool true) rfl ?_
          simp only [execOp, eval_tmp, d18]
          go_simp
        · refine ⟨wanted_some (g := 19) (d := 189) rfl rfl rfl (F.got 19 _ 189 rfl (ready_dep hr 19 (by kernel_rfl)) rfl), ?_⟩
          have s29 : aa.tmps.getD 29 undef = .bool p := (F.old 29 (noDst_spec (by kernel_rfl))).trans rfl
          refine stepV_read (.bool p) rfl ?_
          simp only [execOp, eval_tmp, s29]
          go_simp
        · refine ⟨wanted_some (g := 19) (d := 189) rfl rfl rfl (F.got 19 _ 189 rfl (ready_dep hr 19 (by kernel_rfl)) rfl), ?_⟩
          have s31 : aa.tmps.getD 31 undef = .bool p := (F.old 31 (noDst_spec (by kernel_rfl))).trans rfl
          refine stepV_read (.bool p) rfl ?_
          simp only [execOp, eval_tmp, s31]
          go_simp
        · refine ⟨wanted_some (g := 19) (d := 189) rfl rfl rfl (F.got 19 _ 189 rfl (ready_dep hr 19 (by kernel_rfl)) rfl), ?_⟩
          have d20 : aa.tmps.getD 190 undef = .bool p := F.got 20 _ 190 rfl (ready_dep hr 20 (by kernel_rfl)) rfl
          have d21 : aa.tmps.getD 191 undef = .bool p := F.got 21 _ 191 rfl (ready_dep hr 21 (by kernel_rfl)) rfl
          refine stepV_read (.bool true) rfl ?_
          simp only [execOp, eval_tmp, d20, d21]
          go_simp
        · refine ⟨wanted_none rfl, ?_⟩
          have d19 : aa.tmps.getD 189 undef = .bool true := F.got 19 _ 189 rfl (ready_dep hr 19 (by kernel_rfl)) rfl
          have d22 : aa.tmps.getD 192 undef = .bool true := F.got 22 _ 192 rfl (ready_dep hr 22 (by kernel_rfl)) rfl
          refine stepV_read (.bool true) rfl ?_
          simp only [execOp, eval_tmp, d19, d22]
          go_simp
        · refine ⟨wanted_none rfl, ?_⟩
          have d23 : aa.tmps.getD 193 undef = .bool true := F.got 23 _ 193 rfl (ready_dep hr 23 (by kernel_rfl)) rfl
          refine stepV_read (.bool true) rfl ?_
          simp only [execOp, eval_tmp, d23]
          go_simp
        · refine ⟨wanted_some (g := 24) (d := 194) rfl rfl rfl (F.got 24 _ 194 rfl (ready_dep hr 24 (by kernel_rfl)) rfl), ?_⟩
          have s28 : aa.tmps.getD 28 undef = .pointer (some ⟨w10.heap.size, 0, none⟩) := (F.old 28 (noDst_spec (by kernel_rfl))).trans rfl
          have k0 := (x28.on bV' x28.lt).one.1
          refine stepV_read (.agg #[.slice a10 us.length c10]) rfl ?_
          simp only [execOp, eval_tmp, s28]
          go_simp
        · refine ⟨wanted_some (g := 24) (d := 194) rfl rfl rfl (F.got 24 _ 194 rfl (ready_dep hr 24 (by kernel_rfl)) rfl), ?_⟩
          have s30 : aa.tmps.getD 30 undef = .pointer (some ⟨w11.heap.size, 0, none⟩) := (F.old 30 (noDst_spec (by kernel_rfl))).trans rfl
          have k0 := (x30.on bV' x30.lt).one.1
          refine stepV_read (.agg #[.slice a12 us.length c12]) rfl ?_
          simp only [execOp, eval_tmp, s30]
          go_simp
        · refine ⟨wanted_some (g := 24) (d := 194) rfl rfl rfl (F.got 24 _ 194 rfl (ready_dep hr 24 (by kernel_rfl)) rfl), ?_⟩
          have d25 : aa.tmps.getD 195 undef = .agg #[.slice a10 us.length c10] := F.got 25 _ 195 rfl (ready_dep hr 25 (by kernel_rfl)) rfl
          have d25' := d25
          rw [Array.getD_eq_getD_getElem?] at d25'
          have d26 : aa.tmps.getD 196 undef = .agg #[.slice a12 us.length c12] := F.got 26 _ 196 rfl (ready_dep hr 26 (by kernel_rfl)) rfl
          have d26' := d26
          rw [Array.getD_eq_getD_getElem?] at d26'
          exact stepV_call 21 _ _ rfl (enters_of Tryz.func21 (by kernel_rfl) rfl) #[.agg #[.slice a10 us.length c10], .agg #[.slice a12 us.length c12]] (by simp [Act.eval, d25', d26']) ((refSameS_c a10 a12 c10 c12 us us hu5.1 hu5.2 hu5.2 w' (T10.on bV') (T12.on bV')).mono fun e w'' h => by obtain ⟨b, rfl, hb', hiff⟩ := h; exact ⟨_, rfl, (show Value.bool b = Value.bool true by rw [(unhide hiff).2 rfl]), hb'⟩)
        · refine ⟨wanted_none rfl, ?_⟩
          have d24 : aa.tmps.getD 194 undef = .bool true := F.got 24 _ 194 rfl (ready_dep hr 24 (by kernel_rfl)) rfl
          have d27 : aa.tmps.getD 197 undef = .bool true := F.got 27 _ 197 rfl (ready_dep hr 27 (by kernel_rfl)) rfl
          refine stepV_read (.bool true) rfl ?_
          simp only [execOp, eval_tmp, d24, d27]
          go_simp
        · refine ⟨wanted_none rfl, ?_⟩
          have d28 : aa.tmps.getD 198 undef = .bool true := F.got 28 _ 198 rfl (ready_dep hr 28 (by kernel_rfl)) rfl
          refine stepV_read (.bool true) rfl ?_
          simp only [execOp, eval_tmp, d28]
          go_simp
        · refine ⟨wanted_some (g := 29) (d := 199) rfl rfl rfl (F.got 29 _ 199 rfl (ready_dep hr 29 (by kernel_rfl)) rfl), ?_⟩
          have s15 : aa.tmps.getD 15 undef = .pointer (some ⟨Bp, 0, none⟩) := (F.old 15 (noDst_spec (by kernel_rfl))).trans rfl
          refine stepV_read (.pointer (some ⟨Bp, 0, none⟩)) rfl ?_
          simp only [execOp, eval_tmp, s15]
          go_simp
        · refine ⟨wanted_some (g := 29) (d := 199) rfl rfl rfl (F.got 29 _ 199 rfl (ready_dep hr 29 (by kernel_rfl)) rfl), ?_⟩
          have d30 : aa.tmps.getD 200 undef = .pointer (some ⟨Bp, 0, none⟩) := F.got 30 _ 200 rfl (ready_dep hr 30 (by kernel_rfl)) rfl
          have d30' := d30
          rw [Array.getD_eq_getD_getElem?] at d30'
          exact stepV_call 22 _ _ rfl (enters_of Tryz.func22 (by kernel_rfl) rfl) #[.pointer (some ⟨Bp, 0, none⟩)] (by simp [Act.eval, d30']) ((changes_c Bp cap' capc a' ac ts cs h20 w' ((CF.on bV').mono bV'.size)).mono fun e w'' h => by obtain ⟨a, c, rfl, hb'⟩ := h; exact ⟨_, rfl, ⟨a, c, rfl⟩, hb'⟩)
        · refine ⟨wanted_some (g := 29) (d := 199) rfl rfl rfl (F.got 29 _ 199 rfl (ready_dep hr 29 (by kernel_rfl)) rfl), ?_⟩
          obtain ⟨ax, cx, d31⟩ : ∃ a c, aa.tmps.getD 201 undef = .slice a cs.length c := F.got 31 _ 201 rfl (ready_dep hr 31 (by kernel_rfl)) rfl
          refine stepV_read (.int .i64 cs.length) rfl ?_
          simp only [execOp, resolve, invoke, builtin, Sem.run_bind, Sem.run_pure, Result.andThen_ok, List.map_toArray, List.map_cons, List.map_nil, eval_tmp, d31]
          go_simp
        · refine ⟨wanted_some (g := 29) (d := 199) rfl rfl rfl (F.got 29 _ 199 rfl (ready_dep hr 29 (by kernel_rfl)) rfl), ?_⟩
          have s17 : aa.tmps.getD 17 undef = .pointer (some ⟨Br, 0, none⟩) := (F.old 17 (noDst_spec (by kernel_rfl))).trans rfl
          refine stepV_read (.pointer (some ⟨Br, 0, none⟩)) rfl ?_
          simp only [execOp, eval_tmp, s17]
          go_simp
        · refine ⟨wanted_some (g := 29) (d := 199) rfl rfl rfl (F.got 29 _ 199 rfl (ready_dep hr 29 (by kernel_rfl)) rfl), ?_⟩
          have d33 : aa.tmps.getD 203 undef = .pointer (some ⟨Br, 0, none⟩) := F.got 33 _ 203 rfl (ready_dep hr 33 (by kernel_rfl)) rfl
          refine stepV_read (.pointer (some ⟨Br, 0, none⟩)) rfl ?_
          simp only [execOp, eval_tmp, d33]
          go_simp
        · refine ⟨wanted_some (g := 29) (d := 199) rfl rfl rfl (F.got 29 _ 199 rfl (ready_dep hr 29 (by kernel_rfl)) rfl), ?_⟩
          have d34 : aa.tmps.getD 204 undef = .pointer (some ⟨Br, 0, none⟩) := F.got 34 _ 204 rfl (ready_dep hr 34 (by kernel_rfl)) rfl
          refine stepV_read (.pointer (some ⟨Br, 1, none⟩)) rfl ?_
          simp only [execOp, eval_tmp, d34]
          go_simp
        · refine ⟨wanted_some (g := 29) (d := 199) rfl rfl rfl (F.got 29 _ 199 rfl (ready_dep hr 29 (by kernel_rfl)) rfl), ?_⟩
          have d35 : aa.tmps.getD 205 undef = .pointer (some ⟨Br, 1, none⟩) := F.got 35 _ 205 rfl (ready_dep hr 35 (by kernel_rfl)) rfl
          obtain ⟨k0, k1⟩ := ((RF.on bV').mono bV'.size).box.two
          refine stepV_read (.slice la cs.length lc) rfl ?_
          simp only [execOp, eval_tmp, d35]
          go_simp
        · refine ⟨wanted_some (g := 29) (d := 199) rfl rfl rfl (F.got 29 _ 199 rfl (ready_dep hr 29 (by kernel_rfl)) rfl), ?_⟩
          have d36 : aa.tmps.getD 206 undef = .slice la cs.length lc := F.got 36 _ 206 rfl (ready_dep hr 36 (by kernel_rfl)) rfl
          refine stepV_read (.int .i64 cs.length) rfl ?_
          simp only [execOp, resolve, invoke, builtin, Sem.run_bind, Sem.run_pure, Result.andThen_ok, List.map_toArray, List.map_cons, List.map_nil, eval_tmp, d36]
          go_simp
        · refine ⟨wanted_some (g := 29) (d := 199) rfl rfl rfl (F.got 29 _ 199 rfl (ready_dep hr 29 (by kernel_rfl)) rfl), ?_⟩
          have d32 : aa.tmps.getD 202 undef = .int .i64 cs.length := F.got 32 _ 202 rfl (ready_dep hr 32 (by kernel_rfl)) rfl
          have d37 : aa.tmps.getD 207 undef = .int .i64 cs.length := F.got 37 _ 207 rfl (ready_dep hr 37 (by kernel_rfl)) rfl
          refine stepV_read (.bool true) rfl ?_
          simp only [execOp, eval_tmp, d32, d37]
          go_simp
        · refine ⟨wanted_none rfl, ?_⟩
          have d29 : aa.tmps.getD 199 undef = .bool true := F.got 29 _ 199 rfl (ready_dep hr 29 (by kernel_rfl)) rfl
          have d38 : aa.tmps.getD 208 undef = .bool true := F.got 38 _ 208 rfl (ready_dep hr 38 (by kernel_rfl)) rfl
          refine stepV_read (.bool true) rfl ?_
          simp only [execOp, eval_tmp, d29, d38]
          go_simp
        · refine ⟨wanted_none rfl, ?_⟩
          have d39 : aa.tmps.getD 209 undef = .bool true := F.got 39 _ 209 rfl (ready_dep hr 39 (by kernel_rfl)) rfl
          refine stepV_read (.bool true) rfl ?_
          simp only [execOp, eval_tmp, d39]
          go_simp
      case hdone =>
        intro aa w' hz hd hb9 hold hall
        have d40 : aa.tmps.getD 14 undef = .bool true := hall 40 _ 14 rfl rfl
        have bV' : Below WF.heap.size WF w' := bV.trans (hb9.mono bV.size)
        rename_i hret
        refine hret aa w' ?_
        go_wp2_with fail
        refine bodyPost_ret (results_tmp rfl _ _ _) hd ⟨by rw [d40], bwF.trans (bV'.mono bwF.size)⟩

end Go.Proofs.YtcjpaldijngnpaaGreatDoor
