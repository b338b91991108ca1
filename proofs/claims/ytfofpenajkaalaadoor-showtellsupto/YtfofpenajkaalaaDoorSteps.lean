/-
  The steps of the regions in which package show puts pieces together: slices of texts and of pieces, calls of plain and all, whatever order was picked.
-/
import Derived.Test.YtfofpenajkaalaaDoorFacts
import Derived.Great.BuildSlice
namespace Go.Proofs.YtfofpenajkaalaaDoor
open Go.RowKit Go.Shelf

/-- What is said of a place's value. -/
inductive Fa where
  | any
  | is (v : Value)
  | row (ps : List ByteArray)
  | pcs (ps : List ByteArray)
  | parts (pss : List (List ByteArray))
def Fa.ok (m : Nat) : Fa → Value → World → Prop
  | .any, _, _ => True
  | .is u, v, _ => v = u
  | .row ps, v, w => RowV m w.heap.size w v (ps.map .string)
  | .pcs ps, v, w => Pcs m w v ps
  | .parts pss, v, w => ∃ vs, vs.length = pss.length ∧ RowV m w.heap.size w v vs ∧ ∀ (j : Nat) u ps, vs[j]? = some u → pss[j]? = some ps → Pcs m w u ps
theorem owns_keep {W W' : World} {base : Nat} {e : TypeId} {size : Nat} {v : Value} {n : Nat} {xs : List Value} (h : W.ownsRow base e size v n xs) (hk : ∀ g, v.ownBlock = some g → g < W.heap.size → W'.heap[g]? = W.heap[g]?) : W'.ownsRow base e size v n xs := by
  refine ⟨h.1, ?_⟩
  rcases h.2 with h0 | ⟨g, cap, cur, rfl, hb, hg, hr⟩
  · exact .inl h0
  · exact .inr ⟨g, cap, cur, rfl, hb, (hk g rfl (Array.getElem?_eq_some_iff.1 hg).1).trans hg, hr⟩
theorem owns_on {W W' : World} (hb : Below W.heap.size W W') {base : Nat} {e : TypeId} {size : Nat} {v : Value} {n : Nat} {xs : List Value} (h : W.ownsRow base e size v n xs) : W'.ownsRow base e size v n xs :=
  owns_keep h fun g _ hg => hb.block g hg
theorem owns_form {W : World} {base : Nat} {e : TypeId} {size : Nat} {v : Value} {n : Nat} {xs : List Value} (h : W.ownsRow base e size v n xs) : ∃ a cap, v = .slice a n cap := by
  rcases h.2 with ⟨rfl, h0⟩ | ⟨g, cap, cur, rfl, _⟩
  · exact ⟨none, 0, by rw [h0]⟩
  · exact ⟨_, _, rfl⟩
theorem Fa.on (m : Nat) (f : Fa) (v : Value) (w w' : World) (h : f.ok m v w) (hb : Below w.heap.size w w') : f.ok m v w' := by
  cases f with
  | any => trivial
  | is u => exact h
  | row ps => exact RowV.on hb h
  | pcs ps => exact Pcs.on h hb
  | parts pss =>
    obtain ⟨vs, h1, h2, h3⟩ := h
    exact ⟨vs, h1, h2.on hb, fun j u ps hu hp => (h3 j u ps hu hp).on hb⟩

theorem infoStr : (Tryd.prog.info? 9).map (fun i => (i.zero, i.size, i.bytes)) = some (some (.string ⟨#[]⟩), 1, 16) := by kernel_rfl
theorem infoPcs : (Tryd.prog.info? 46).map (fun i => (i.zero, i.size, i.bytes)) = some (some .nilFunc, 1, 8) := by kernel_rfl

/-- What a step of such a region comes to. -/
abbrev StepTo (m : Nat) (f : Fa) (o : Oper) (a : Act) (w : World) (Q : Exit → Act → World → Prop) : Prop :=
  Oper.wp Tryd.prog o a w (fun a' w' => ∃ v, a' = a.put o.dst v ∧ f.ok m v w' ∧ Below w.heap.size w w') Q

theorem step_slice {m : Nat} {o : Oper} {a : Act} {w : World} {Q : Exit → Act → World → Prop} (hm : m ≤ w.heap.size) (t e : TypeId) (n : Nat) (parts : Array (Nat × Operand)) (ho : o.op = .buildSlice t n parts) (i : TypeInfo) (z : Value)
    (ht : Tryd.prog.underlying t = some (.slice e)) (hi : Tryd.prog.info? e = some i) (hz : i.zero = some z) (hsz : i.size = 1) (vs : List Value) (hn : vs.length = n) (h0 : 0 < n) (h9 : n ≤ 9)
    (hone : ∀ v ∈ vs, v.cells = #[v]) (hev : (parts.map fun (j, x) => (j, a.eval x)).toList = (vs.zipIdx 0).map fun x => (x.2, x.1)) {f : Fa}
    (hK : ∀ v w', RowV m w'.heap.size w' v vs → Below w.heap.size w w' → f.ok m v w') : StepTo m f o a w Q := by
  refine wp_buildSlice t e n parts ho vs.toArray i z ht hi hz (by rw [hsz]; omega) (by rw [hsz]; omega) ?_ ?_
  · rw [hev, hsz]
    exact Great.fill_flat _ _ hone (by simp [hn])
  · have hb : Below w.heap.size w (w.alloc (.cells vs.toArray e)) := (Below.refl _ _).alloc (Nat.le_refl _) _
    refine ⟨_, rfl, hK _ _ ⟨_, n, by rw [hn], by omega, fun j u hu => ⟨w.heap.size, 0, rfl, hm, by simp, ?_⟩⟩ hb, hb⟩
    have := (Box.new w e vs.toArray).at j (v := u) (by simpa using hu)
    simpa using this

theorem step_row {m : Nat} {o : Oper} {a : Act} {w : World} {Q : Exit → Act → World → Prop} (hm : m ≤ w.heap.size) (n : Nat) (parts : Array (Nat × Operand)) (ho : o.op = .buildSlice 40 n parts) (ps : List ByteArray) (hn : ps.length = n) (h0 : 0 < n) (h9 : n ≤ 9)
    (hev : (parts.map fun (j, x) => (j, a.eval x)).toList = ((ps.map Value.string).zipIdx 0).map fun x => (x.2, x.1)) : StepTo m (.row ps) o a w Q := by
  obtain ⟨i, hi, hz, hs, -⟩ := info_parts infoStr
  refine step_slice hm 40 9 n parts ho i _ Tryd.underlying40 hi hz hs (ps.map .string) (by simpa using hn) h0 h9 (fun v hv => ?_) hev (fun v w' h _ => h)
  obtain ⟨x, -, rfl⟩ := List.mem_map.1 hv
  rfl
theorem step_parts {m : Nat} {o : Oper} {a : Act} {w : World} {Q : Exit → Act → World → Prop} (hm : m ≤ w.heap.size) (n : Nat) (parts : Array (Nat × Operand)) (ho : o.op = .buildSlice 89 n parts) (vs : List Value) (pss : List (List ByteArray)) (hl : vs.length = pss.length) (hn : vs.length = n) (h0 : 0 < n) (h9 : n ≤ 9)
    (hp : ∀ (j : Nat) u ps, vs[j]? = some u → pss[j]? = some ps → Pcs m w u ps) (hev : (parts.map fun (j, x) => (j, a.eval x)).toList = (vs.zipIdx 0).map fun x => (x.2, x.1)) : StepTo m (.parts pss) o a w Q := by
  obtain ⟨i, hi, hz, hs, -⟩ := info_parts infoPcs
  refine step_slice hm 89 46 n parts ho i _ Tryd.underlying89 hi hz hs vs hn h0 h9 (fun v hv => ?_) hev (fun v w' h hb => ⟨vs, hl, h, fun j u ps hu hps => (hp j u ps hu hps).on hb⟩)
  obtain ⟨j, hj⟩ := List.getElem?_of_mem hv
  obtain ⟨ps, hps⟩ : ∃ ps, pss[j]? = some ps := ⟨_, List.getElem?_eq_getElem (by rw [← hl]; exact (List.getElem?_eq_some_iff.1 hj).1)⟩
  obtain ⟨g, lb, rfl, -⟩ := hp j v ps hj hps
  rfl
theorem step_call {m : Nat} {o : Oper} {a : Act} {w : World} {Q : Exit → Act → World → Prop} {f : Fa} (k : Nat) (xs : Array Operand) (ts : Array TypeId) (ho : o.op = .call { callee := .value (.func k), args := xs, argTypes := ts })
    (en : ∀ args w, (callFunc k args).run Tryd.prog w = .ok (.enter k args) w) (vals : Array Value) (he : xs.map a.eval = vals) (hc : Calls Tryd.prog k vals w fun e w' => ∃ u, e = .returned u ∧ f.ok m u w' ∧ Below w.heap.size w w') : StepTo m f o a w Q := by
  have hr : (execOp a.eval o).run Tryd.prog w = .ok (.enter k vals) w := by
    unfold execOp
    simp [ho, resolve, Act.eval, Deferred.ofValue, invoke, he, en]
  unfold StepTo Oper.wp
  rw [hr, Oper.upon_enter]
  refine hc.mono fun e w' h => ?_
  obtain ⟨u, rfl, h1, h2⟩ := h
  exact ⟨u, rfl, h1, h2⟩
theorem step_plain {m : Nat} {o : Oper} {a : Act} {w : World} {Q : Exit → Act → World → Prop} (hm : m ≤ w.heap.size) (x : Operand) (ts : Array TypeId) (ho : o.op = .call { callee := .value (.func 38), args := #[x], argTypes := ts }) (ps : List ByteArray) (hx : (Fa.row ps).ok m (a.eval x) w) : StepTo m (.pcs ps) o a w Q :=
  step_call 38 _ ts ho (enters_of Tryd.func38 (by kernel_rfl) rfl) #[a.eval x] (by simp) (plain_c m _ ps w hm hx)
theorem step_all {m : Nat} {o : Oper} {a : Act} {w : World} {Q : Exit → Act → World → Prop} (hm : m ≤ w.heap.size) (x : Operand) (ts : Array TypeId) (ho : o.op = .call { callee := .value (.func 37), args := #[x], argTypes := ts }) (pss : List (List ByteArray)) (hx : (Fa.parts pss).ok m (a.eval x) w) : StepTo m (.pcs pss.flatten) o a w Q := by
  obtain ⟨vs, h1, h2, h3⟩ := hx
  exact step_call 37 _ ts ho (enters_of Tryd.func37 (by kernel_rfl) rfl) #[a.eval x] (by simp) (all_c m _ vs pss h1 w hm h3 h2)
theorem step_assign {m : Nat} {o : Oper} {a : Act} {w : World} {Q : Exit → Act → World → Prop} {f : Fa} (x : Operand) (ho : o.op = .assign x ∨ o.op = .move x) (hx : f.ok m (a.eval x) w) : StepTo m f o a w Q := by
  unfold StepTo Oper.wp execOp
  rcases ho with ho | ho
  all_goals
    simp only [ho]
    exact ⟨_, rfl, hx, Below.refl _ _⟩
theorem step_read {m : Nat} {o : Oper} {a : Act} {w : World} {Q : Exit → Act → World → Prop} (v : Value) (h : (execOp a.eval o).run Tryd.prog w = .ok (.value v) w) : StepTo m (.is v) o a w Q := by
  unfold StepTo Oper.wp
  rw [h]
  exact ⟨v, rfl, rfl, Below.refl _ _⟩

end Go.Proofs.YtfofpenajkaalaaDoor
