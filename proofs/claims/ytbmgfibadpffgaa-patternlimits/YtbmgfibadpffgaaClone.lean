/-
  What slices.Clone makes of a row of nodes: a row of its own; for every row that lies, in whatever world; nothing that lay is turned. Rows that a call owns, carried along.
-/
import Derived.Test.YtbmgfibadpffgaaSame
import Derived.Lib.SmallJoins
import Derived.Maps.OwnIn
namespace Go.Proofs.Ytbmgfibadpffgaa
open Go.RowKit Go.Shelf

theorem owns_keep {W W' : World} {base : Nat} {e : TypeId} {size : Nat} {v : Value} {n : Nat} {xs : List Value} (h : W.ownsRow base e size v n xs) (hk : ∀ g, v.ownBlock = some g → g < W.heap.size → W'.heap[g]? = W.heap[g]?) : W'.ownsRow base e size v n xs := by
  refine ⟨h.1, ?_⟩
  rcases h.2 with h0 | ⟨g, cap, cur, rfl, hb, hg, hr⟩
  · exact .inl h0
  · exact .inr ⟨g, cap, cur, rfl, hb, (hk g rfl (Array.getElem?_eq_some_iff.1 hg).1).trans hg, hr⟩
theorem owns_below {W W' : World} {base : Nat} {e : TypeId} {size : Nat} {v : Value} {n : Nat} {xs : List Value} (h : W.ownsRow base e size v n xs) (hb : Below W.heap.size W W') : W'.ownsRow base e size v n xs :=
  owns_keep h fun g _ hg => hb.block g hg
theorem owns_lt {W : World} {base : Nat} {e : TypeId} {size : Nat} {v : Value} {n : Nat} {xs : List Value} (h : W.ownsRow base e size v n xs) {g : Nat} (hg : v.ownBlock = some g) : base ≤ g ∧ ∃ cur, W.heap[g]? = some (.cells cur e (0, 0)) := by
  rcases h.2 with ⟨rfl, _⟩ | ⟨g', cap, cur, rfl, hb, hg', _⟩
  · cases hg
  · cases hg; exact ⟨hb, cur, hg'⟩
theorem owns_base {W : World} {base base' : Nat} (hl : base' ≤ base) {e : TypeId} {size : Nat} {v : Value} {n : Nat} {xs : List Value} (h : W.ownsRow base e size v n xs) : W.ownsRow base' e size v n xs := by
  refine ⟨h.1, ?_⟩
  rcases h.2 with h0 | ⟨g, cap, cur, rfl, hb, hr⟩
  · exact .inl h0
  · exact .inr ⟨g, cap, cur, rfl, Nat.le_trans hl hb, hr⟩
theorem owns_set {W : World} {base : Nat} {e : TypeId} {size : Nat} {v : Value} {n : Nat} {xs : List Value} (h : W.ownsRow base e size v n xs) (p : Addr) (u : Value) (hp : p.block < base) : (W.setCell p u).ownsRow base e size v n xs :=
  owns_keep h fun g hg _ => setCell_block W p u (by have := (owns_lt h hg).1; omega)
theorem owns_slice {W : World} {base : Nat} {e : TypeId} {size : Nat} {v : Value} {n : Nat} {xs : List Value} (h : W.ownsRow base e size v n xs) : ∃ a c, v = .slice a n c := by
  rcases h.2 with ⟨e, h0⟩ | ⟨g, cc, _, e, _⟩
  · exact ⟨none, 0, by rw [e, h0]⟩
  · exact ⟨_, _, e⟩

/-- A node as it lies flat. -/
structure Nd where
  d : Dat
  a : Option Addr
  m : Nat
  cap : Nat
abbrev Nd.cs (x : Nd) : Array Value := x.d.cs x.a x.m x.cap
def newsN (l : List Nd) : List Value := l.flatMap fun x => x.cs.toList
theorem newsN_cons (x : Nd) (l : List Nd) : newsN (x :: l) = x.cs.toList ++ newsN l := by simp [newsN]
theorem newsN_snoc (l : List Nd) (x : Nd) : newsN (l ++ [x]) = newsN l ++ x.cs.toList := by simp [newsN]
theorem newsN_len (l : List Nd) : (newsN l).length = l.length * 7 := by
  induction l with
  | nil => rfl
  | cons x l ih => rw [newsN_cons, List.length_append, ih]; simp; omega
theorem newsN_at (l : List Nd) : ∀ (j : Nat) x, l[j]? = some x → ∀ i, i < 7 → (newsN l)[j * 7 + i]? = x.cs[i]? := by
  induction l with
  | nil => intro j x h; simp at h
  | cons y l ih =>
    intro j x h i hi
    rw [newsN_cons]
    cases j with
    | zero =>
      simp only [List.getElem?_cons_zero, Option.some.injEq] at h
      subst h
      rw [Nat.zero_mul, Nat.zero_add, List.getElem?_append_left (by simpa using hi), Array.getElem?_toList]
    | succ j =>
      rw [List.getElem?_append_right (by simp; omega)]
      have := ih j x (by simpa using h) i hi
      rw [← this]
      congr 1
      simp; omega
theorem newsN_one (l : List Nd) : ∀ u ∈ newsN l, u.oneCell' = true := by
  intro u hu
  simp only [newsN, List.mem_flatMap] at hu
  obtain ⟨x, _, hx⟩ := hu
  simp at hx
  rcases hx with rfl | rfl | rfl | rfl | rfl | rfl | rfl <;> simp [Value.oneCell']

/-- These nodes lie at a. -/
def NdsAt (n₀ : Nat) (W : World) (a : Option Addr) (l : List Nd) : Prop :=
  l = [] ∨ ∃ b off, a = some ⟨b, off, none⟩ ∧ b < n₀ ∧ ∀ (j : Nat) x, l[j]? = some x → ∀ (i : Nat) u, x.cs[i]? = some u → W.cell? ⟨b, off + j * 7 + i, none⟩ = some u
theorem Lies.nds {n₀ : Nat} {W : World} {a : Option Addr} {ks : List Tree} (h : Lies n₀ W a ks) :
    ∃ l : List Nd, l.length = ks.length ∧ NdsAt n₀ W a l ∧ ∀ (j : Nat) x, l[j]? = some x → ∃ t, ks[j]? = some t ∧ x.d = t.dat ∧ x.m = t.kids.length ∧ Lies n₀ W x.a t.kids := by
  cases h with
  | nil a => exact ⟨[], rfl, .inl rfl, fun j x h => by simp at h⟩
  | row b off ks f hl hb hc hk =>
    refine ⟨ks.mapIdx fun j t => ⟨t.dat, (f j).1, t.kids.length, (f j).2⟩, by simp, .inr ⟨b, off, rfl, hb, fun j x hx i u hu => ?_⟩, fun j x hx => ?_⟩
    · simp only [List.getElem?_mapIdx, Option.map_eq_some_iff] at hx
      obtain ⟨t, ht, rfl⟩ := hx
      exact hc j t ht i u hu
    · simp only [List.getElem?_mapIdx, Option.map_eq_some_iff] at hx
      obtain ⟨t, ht, rfl⟩ := hx
      exact ⟨t, ht, rfl, rfl, hk j t ht⟩
theorem newsN_cells {W : World} {b off : Nat} {l : List Nd} (hc : ∀ (j : Nat) x, l[j]? = some x → ∀ (i : Nat) u, x.cs[i]? = some u → W.cell? ⟨b, off + j * 7 + i, none⟩ = some u) :
    ∀ j u, (newsN l)[j]? = some u → W.cell? ((⟨b, off, none⟩ : Addr).add j) = some u := by
  intro j u hu
  have hj : j < l.length * 7 := by
    have := (List.getElem?_eq_some_iff.1 hu).1
    rwa [newsN_len] at this
  rw [WideShapes.add_plain]
  have hk : j / 7 < l.length := by omega
  have e : j = j / 7 * 7 + j % 7 := by omega
  rw [e] at hu ⊢
  rw [newsN_at l (j / 7) _ (List.getElem?_eq_getElem hk) _ (by omega)] at hu
  rw [← Nat.add_assoc]
  exact hc _ _ (List.getElem?_eq_getElem hk) _ _ hu

theorem info_parts {p : Option TypeInfo} {z : Value} {s b : Nat} (h : p.map (fun i => (i.zero, i.size, i.bytes)) = some (some z, s, b)) : ∃ i, p = some i ∧ i.zero = some z ∧ i.size = s ∧ i.bytes = b := by
  cases p with
  | none => cases h
  | some i => simp at h; exact ⟨i, rfl, h.1, h.2.1, h.2.2⟩
abbrev zeroX : Value := .agg #[.int .i64 0, .int .i64 0, .int .i64 0, .string ⟨#[]⟩, .string ⟨#[]⟩, .string ⟨#[]⟩, .slice none 0 0]
theorem infoX : (Try.prog.info? 27).map (fun i => (i.zero, i.size, i.bytes)) = some (some zeroX, 7, 96) := by kernel_rfl

set_option maxRecDepth 100000 in
set_option maxHeartbeats 1000000 in
theorem cloneN_c (a : Option Addr) (cap : Nat) (l : List Nd) (h20 : l.length ≤ 1099511627776) (w : World) (hN : NdsAt w.heap.size w a l) :
    Calls Try.prog 30 #[.slice a l.length cap] w fun e w' => ∃ a' c', e = .returned (.slice a' l.length c') ∧ w'.ownsRow w.heap.size 27 7 (.slice a' l.length c') l.length (newsN l) ∧ Below w.heap.size w w' := by
  obtain ⟨i0, hi, hz0, hz1, hz2⟩ := info_parts infoX
  have heq : ∀ (w : World) (n c : Nat), (binOp .eql 25 (.slice a n c) (.slice none 0 0)).run Try.prog w = .ok (.bool a.isNone) w := fun w n c => Lib.run_eql_slice_nil w 25 27 a n c 0 0 Try.underlying25
  cases a with
  | none =>
    have e0 : l = [] := by
      rcases hN with h | ⟨b, off, e, _⟩
      · exact h
      · cases e
    subst e0
    go_enter Try.func30, Try.ntmps30
    go_wp2_with fail
    go_ret
    exact ⟨_, _, rfl, ⟨rfl, .inl ⟨rfl, rfl⟩⟩, Below.refl _ _⟩
  | some ad =>
    have b0 : Below w.heap.size w (w.alloc (.cells #[] 27)) := (Below.refl _ _).alloc (Nat.le_refl _) _
    have ho : (w.alloc (.cells #[] 27)).ownsRow w.heap.size 27 7 (.slice (some ⟨w.heap.size, 0, none⟩) 0 0) 0 [] := ⟨rfl, .inr ⟨w.heap.size, 0, #[], rfl, Nat.le_refl _, World.alloc_heap_new w _, Nat.le_refl _, Nat.zero_le _, rfl, rfl⟩⟩
    have hnews : ∀ j u, (newsN l)[j]? = some u → (w.alloc (.cells #[] 27)).cell? (ad.add j) = some u := by
      rcases hN with rfl | ⟨b, off, e, hb, hc⟩
      · intro j u h; simp [newsN] at h
      · cases e; exact newsN_cells fun j x hx i u hu => (b0.cell (p := ⟨b, off + j * 7 + i, none⟩) hb).trans (hc j x hx i u hu)
    have hnews := hide hnews
    have hln := hide (newsN_len l)
    have h1 := hide (newsN_one l)
    have hV := hide hN
    clear hN
    go_enter Try.func30, Try.ntmps30
    go_wp2_with (at_builtin; go_must (refine wpList_append_own _ rfl _ _ 25 rfl w.heap.size 27 i0 zeroX 7 96 Try.underlying25 hi hz0 hz1 hz2 rfl (by decide) (.slice (some ⟨w.heap.size, 0, none⟩) 0 0) 0 [] rfl ho ad l.length cap (newsN l) rfl (unhide hln) (unhide hnews) (unhide h1) (by unfold maxLen; omega) (by omega) (by simp) ?_); intro v' w2 hown hgrow _)
    rw [Nat.zero_add, List.nil_append] at hown
    obtain ⟨a', c', rfl⟩ := owns_slice hown
    replace hown := hide hown
    go_wp2_with fail
    go_ret
    exact ⟨a', c', rfl, unhide hown, b0.grown hgrow (by simp) (fun k e => by cases e; exact Nat.le_refl _)⟩

end Go.Proofs.Ytbmgfibadpffgaa
