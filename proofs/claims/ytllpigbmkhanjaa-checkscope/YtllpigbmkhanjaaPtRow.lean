/-
  A row of elements that a law makes: owned, each one's types in a block of texts; one stored into, one appended; what it is to a pattern.
-/
import Derived.Test.YtllpigbmkhanjaaKnB
namespace Go.Proofs.Ytllpigbmkhanjaa
open Go.RowKit Go.Shelf

theorem owns_lt {W : World} {base : Nat} {e : TypeId} {size : Nat} {v : Value} {n : Nat} {xs : List Value} (h : W.ownsRow base e size v n xs) {g : Nat} (hg : v.ownBlock = some g) : base ≤ g ∧ ∃ cur, W.heap[g]? = some (.cells cur e (0, 0)) := by
  rcases h.2 with ⟨rfl, _⟩ | ⟨g', cap, cur, rfl, hb, hg', _⟩
  · cases hg
  · cases hg; exact ⟨hb, cur, hg'⟩


theorem owns_set {W : World} {base : Nat} {e : TypeId} {size : Nat} {v : Value} {n : Nat} {xs : List Value} (h : W.ownsRow base e size v n xs) (p : Addr) (u : Value) (hp : p.block < base) : (W.setCell p u).ownsRow base e size v n xs :=
  owns_keep h fun g hg _ => setCell_block W p u (by have := (owns_lt h hg).1; omega)


theorem owns_slice {W : World} {base : Nat} {e : TypeId} {size : Nat} {v : Value} {n : Nat} {xs : List Value} (h : W.ownsRow base e size v n xs) : ∃ a c, v = .slice a n c := by
  rcases h.2 with ⟨e, h0⟩ | ⟨g, cc, _, e, _⟩
  · exact ⟨none, 0, by rw [e, h0]⟩
  · exact ⟨_, _, e⟩



def newsR (l : List (Em × Pl)) : List Value := l.flatMap fun x => (x.1.cs x.2).toList
theorem newsR_cons (x : Em × Pl) (l : List (Em × Pl)) : newsR (x :: l) = (x.1.cs x.2).toList ++ newsR l := by simp [newsR]
theorem newsR_snoc (l : List (Em × Pl)) (x : Em × Pl) : newsR (l ++ [x]) = newsR l ++ (x.1.cs x.2).toList := by simp [newsR]
theorem newsR_len (l : List (Em × Pl)) : (newsR l).length = l.length * 11 := by
  induction l with
  | nil => rfl
  | cons x l ih => rw [newsR_cons, List.length_append, ih]; simp; omega
theorem newsR_at (l : List (Em × Pl)) : ∀ (j : Nat) x, l[j]? = some x → ∀ i, i < 11 → (newsR l)[j * 11 + i]? = (x.1.cs x.2)[i]? := by
  induction l with
  | nil => intro j x h; simp at h
  | cons y l ih =>
    intro j x h i hi
    rw [newsR_cons]
    cases j with
    | zero =>
      simp only [List.getElem?_cons_zero, Option.some.injEq] at h
      subst h
      rw [Nat.zero_mul, Nat.zero_add, List.getElem?_append_left (by simpa using hi), Array.getElem?_toList]
    | succ j =>
      rw [List.getElem?_append_right (by simp; omega)]
      have := ih j x (by simpa using h) i hi
      rw [← this]
      congr 1
      simp; omega
theorem newsR_set (l : List (Em × Pl)) : ∀ (j : Nat) x y, l[j]? = some x → ∀ (f : Nat) (u : Value), f < 11 → (y.1.cs y.2).toList = (x.1.cs x.2).toList.set f u → (newsR l).set (j * 11 + f) u = newsR (l.set j y) := by
  induction l with
  | nil => intro j x y h; simp at h
  | cons z l ih =>
    intro j x y h f u hf hs
    cases j with
    | zero =>
      simp only [List.getElem?_cons_zero, Option.some.injEq] at h
      subst h
      rw [List.set_cons_zero, newsR_cons, newsR_cons, hs, Nat.zero_mul, Nat.zero_add, List.set_append_left _ _ (by simpa using hf)]
    | succ j =>
      rw [List.set_cons_succ, newsR_cons, newsR_cons, ← ih j x y (by simpa using h) f u hf hs, List.set_append_right _ _ (by simp; omega)]
      congr 2
      simp; omega
theorem newsR_one (l : List (Em × Pl)) : ∀ u ∈ newsR l, u.oneCell' = true := by
  intro u hu
  simp only [newsR, List.mem_flatMap] at hu
  obtain ⟨x, _, hx⟩ := hu
  simp at hx
  rcases hx with rfl | rfl | rfl | rfl | rfl | rfl | rfl | rfl | rfl | rfl | rfl <;> simp [Value.oneCell']

/-- An element's types lie in a block of texts; its condition has no kids. -/
def TyIn (W : World) (x : Em × Pl) : Prop := x.1.t.kids = [] ∧ x.1.ts.length ≤ 10 ∧ (x.1.ts = [] ∨ ∃ tb cur, x.2.ta = some ⟨tb, 0, none⟩ ∧ Box W tb 9 cur ∧ ∀ (j : Nat) t, x.1.ts[j]? = some t → cur[j]? = some (.string t.1))
theorem TyIn.on {A B : World} {x : Em × Pl} (h : TyIn A x) (hb : Below A.heap.size A B) : TyIn B x := by
  obtain ⟨h1, h2, h3 | ⟨tb, cur, e, hx, hc⟩⟩ := h
  · exact ⟨h1, h2, .inl h3⟩
  · exact ⟨h1, h2, .inr ⟨tb, cur, e, hx.on hb hx.lt, hc⟩⟩
theorem TyIn.set {W : World} {x : Em × Pl} (h : TyIn W x) {b : Nat} {t : TypeId} {cs : Array Value} (hb : Box W b t cs) (ht : t ≠ 9) (i : Nat) (v : Value) : TyIn (W.setCell ⟨b, i, none⟩ v) x := by
  obtain ⟨h1, h2, h3 | ⟨tb, cur, e, hx, hc⟩⟩ := h
  · exact ⟨h1, h2, .inl h3⟩
  · refine ⟨h1, h2, .inr ⟨tb, cur, e, hx.other _ _ (fun e => ?_), hc⟩⟩
    simp only at e
    subst e
    unfold Box at hb hx
    rw [hb] at hx
    simp at hx
    exact ht hx.2
theorem TyIn.grown {A B : World} {x : Em × Pl} (h : TyIn A x) {row : Option Nat} (hg : A.grownBy B row) (hr : ∀ g, row = some g → ∃ cur, A.heap[g]? = some (.cells cur 41 (0, 0))) : TyIn B x := by
  obtain ⟨h1, h2, h3 | ⟨tb, cur, e, hx, hc⟩⟩ := h
  · exact ⟨h1, h2, .inl h3⟩
  · refine ⟨h1, h2, .inr ⟨tb, cur, e, (hg.block tb hx.lt (fun e => ?_)).trans hx, hc⟩⟩
    obtain ⟨cur', h'⟩ := hr tb e.symm
    unfold Box at hx
    rw [h'] at hx
    simp at hx

/-- The row v holds these elements. -/
structure Rw (base : Nat) (W : World) (v : Value) (l : List (Em × Pl)) : Prop where
  own : W.ownsRow base 41 11 v l.length (newsR l)
  ty : ∀ x ∈ l, TyIn W x
theorem Rw.nil (base : Nat) (W : World) : Rw base W (.slice none 0 0) [] := ⟨World.ownsRow_nil _ _ _ _, fun _ h => by cases h⟩
theorem Rw.on {base : Nat} {A B : World} {v : Value} {l : List (Em × Pl)} (h : Rw base A v l) (hb : Below A.heap.size A B) : Rw base B v l := ⟨owns_below h.own hb, fun x hx => (h.ty x hx).on hb⟩
theorem Rw.box {base : Nat} {W : World} {v : Value} {l : List (Em × Pl)} (h : Rw base W v l) {b : Nat} {t : TypeId} {cs : Array Value} (hb : Box W b t cs) (ht : t ≠ 9) (hl : b < base) (i : Nat) (u : Value) : Rw base (W.setCell ⟨b, i, none⟩ u) v l :=
  ⟨owns_set h.own _ _ hl, fun x hx => (h.ty x hx).set hb ht i u⟩
/-- One cell of an element stored. -/
theorem Rw.store {base g c : Nat} {W : World} {l : List (Em × Pl)} (h : Rw base W (.slice (some ⟨g, 0, none⟩) l.length c) l) {j : Nat} {x : Em × Pl} (hx : l[j]? = some x) (y : Em × Pl) (f : Nat) (u : Value) (hf : f < 11) (hs : (y.1.cs y.2).toList = (x.1.cs x.2).toList.set f u) (hy : TyIn W y) :
    Rw base (W.setCell ⟨g, j * 11 + f, none⟩ u) (.slice (some ⟨g, 0, none⟩) l.length c) (l.set j y) := by
  obtain ⟨_, cur, hc⟩ := owns_lt h.own (g := g) rfl
  refine ⟨?_, fun z hz => ?_⟩
  · have := (h.own.stored (j * 11 + f) u).1
    rw [newsR_set l j x y hx f u hf hs] at this
    simpa using this
  · have : TyIn W z := by
      rcases List.mem_or_eq_of_mem_set hz with h1 | rfl
      · exact h.ty z h1
      · exact hy
    exact this.set (show Box W g 41 cur from hc) (by decide) _ _
theorem Rw.ems {base : Nat} {W : World} {v : Value} {l : List (Em × Pl)} (h : Rw base W v l) (h10 : l.length ≤ 10) : ∃ a c, v = .slice a (l.map (·.1)).length c ∧ (l.map (·.1)).length ≤ c ∧ Ems W.heap.size W a (l.map (·.1)) := by
  have hl : (l.map (·.1)).length = l.length := by simp
  rw [hl]
  rcases Nat.eq_zero_or_pos l.length with h0 | hp
  · obtain ⟨a, c, e⟩ := owns_slice h.own
    have : l = [] := List.length_eq_zero_iff.1 h0
    subst this
    exact ⟨a, c, e, Nat.zero_le _, by simp, .inl rfl⟩
  · have hown := h.own
    rcases hown.2 with ⟨_, h0⟩ | ⟨g, c, cur, rfl, hb, hg, hnc, _⟩
    · omega
    refine ⟨_, c, rfl, hnc, by simp; omega, .inr ⟨g, 0, fun j => match l[j]? with | none => ⟨none, 0, none, 0⟩ | some x => x.2, rfl, (Array.getElem?_eq_some_iff.1 hg).1, fun j e he => ?_⟩⟩
    simp only [List.getElem?_map, Option.map_eq_some_iff] at he
    obtain ⟨x, hx, rfl⟩ := he
    simp only [hx]
    have hj : j < l.length := (List.getElem?_eq_some_iff.1 hx).1
    refine ⟨fun i u hu => ?_, ?_⟩
    · have h11 : i < 11 := by have := (Array.getElem?_eq_some_iff.1 hu).1; simpa using this
      rw [Nat.zero_add, hown.cellAt (j * 11 + i) (by omega), newsR_at l j x hx i h11]; exact hu
    · obtain ⟨h1, h2, h3⟩ := h.ty x (List.mem_of_getElem? hx)
      refine ⟨⟨by omega, ?_⟩, by rw [h1]; exact .nil _⟩
      rcases h3 with h3 | ⟨tb, cur', e, hbx, hc⟩
      · exact .inl h3
      · exact .inr ⟨tb, 0, e, hbx.lt, fun j t ht => by rw [Nat.zero_add]; exact hbx.at j (hc j t ht)⟩
theorem infoE : (Try.prog.info? 41).map (fun i => (i.zero, i.size, i.bytes)) = some (some (.agg #[.string ⟨#[]⟩, .slice none 0 0, .bool false, .bool false, .int .i64 0, .int .i64 0, .int .i64 0, .string ⟨#[]⟩, .string ⟨#[]⟩, .string ⟨#[]⟩, .slice none 0 0]), 11, 144) := by kernel_rfl

end Go.Proofs.Ytllpigbmkhanjaa
