/-
  The schemas that SchemaLimits makes, as lists; rows that a call owns, carried along; when such a schema may be.
-/
import Derived.Test.YtndjoopnldnckaaKnown
namespace Go.Proofs.Ytndjoopnldnckaa
open Go.RowKit Go.Shelf

def t2 (c d : UInt8) : Txt := ⟨⟨#[c, d]⟩, show 2 ≤ maxLen by decide⟩
def mkT (i : Nat) : Txt := t2 116 (UInt8.ofNat (97 + i))
def mkF (i : Nat) : Txt := t2 102 (UInt8.ofNat (97 + i))
def fieldsTo (j : Nat) : List Fd := (List.range j).map fun f => (mkF f, ((1 + f % 3 : Nat) : Int))
def typesTo (k j : Nat) : List Ty := (List.range k).map fun i => (mkT i, fieldsTo j)
/-- The last type's name is the one's ahead of it. -/
def types1 (k j : Nat) : List Ty := (List.range k).map fun q => (if q = k - 1 then mkT (k - 2) else mkT q, fieldsTo j)
/-- The last field's name is the first one's. -/
def fields2 (j : Nat) : List Fd := (List.range j).map fun f => (if f = j - 1 then mkF 0 else mkF f, ((1 + f % 3 : Nat) : Int))
/-- The first type has such fields. -/
def types2 (k j : Nat) : List Ty := (List.range k).map fun q => (mkT q, if q = 0 then fields2 j else fieldsTo j)

theorem is_0 : ∀ k, k < 8 → ∀ j, j < 8 → isS (typesTo k j) = (decide (k ≤ 5) && (decide (j ≤ 5) || decide (k = 0))) := by
  simp only [isS_eq]
  decide +kernel
theorem is_1 : ∀ k, k < 8 → 1 < k → ∀ j, j < 8 → isS (types1 k j) = false := by
  simp only [isS_eq]
  decide +kernel
theorem is_2 : ∀ k, k < 8 → 0 < k → ∀ j, j < 8 → 1 < j → isS (types2 k j) = false := by
  simp only [isS_eq]
  decide +kernel

theorem owns_keep {W W' : World} {base : Nat} {e : TypeId} {size : Nat} {v : Value} {n : Nat} {xs : List Value} (h : W.ownsRow base e size v n xs) (hk : ∀ g, v.ownBlock = some g → g < W.heap.size → W'.heap[g]? = W.heap[g]?) : W'.ownsRow base e size v n xs := by
  refine ⟨h.1, ?_⟩
  rcases h.2 with h0 | ⟨g, cap, cur, rfl, hb, hg, hr⟩
  · exact .inl h0
  · exact .inr ⟨g, cap, cur, rfl, hb, (hk g rfl (Array.getElem?_eq_some_iff.1 hg).1).trans hg, hr⟩
theorem owns_below {W W' : World} {base : Nat} {e : TypeId} {size : Nat} {v : Value} {n : Nat} {xs : List Value} (h : W.ownsRow base e size v n xs) (hb : Below W.heap.size W W') : W'.ownsRow base e size v n xs :=
  owns_keep h fun g _ hg => hb.block g hg
theorem owns_lt {W : World} {base : Nat} {e : TypeId} {size : Nat} {v : Value} {n : Nat} {xs : List Value} (h : W.ownsRow base e size v n xs) {g : Nat} (hg : v.ownBlock = some g) : base ≤ g ∧ ∃ cur, W.heap[g]? = some (.cells cur e (0, 0)) := by
  rcases h.2 with ⟨rfl, _⟩ | ⟨g', cap, cur, rfl, hb, hg', _⟩
  · cases hg
  · cases hg; exact ⟨hb, cur, hg'⟩
theorem owns_base {W : World} {base base' : Nat} (hl : base' ≤ base) {e : TypeId} {size : Nat} {v : Value} {n : Nat} {xs : List Value} (h : W.ownsRow base e size v n xs) : W.ownsRow base' e size v n xs := by
  refine ⟨h.1, ?_⟩
  rcases h.2 with h0 | ⟨g, cap, cur, rfl, hb, hr⟩
  · exact .inl h0
  · exact .inr ⟨g, cap, cur, rfl, Nat.le_trans hl hb, hr⟩

/-- A type in a box of its own. -/
def TBox (W : World) (B : Nat) (s : ByteArray) (v : Value) : Prop := W.heap[B]? = some (.cells #[.string s, v] 29 (0, 0))
theorem TBox.lt {W : World} {B : Nat} {s : ByteArray} {v : Value} (h : TBox W B s v) : B < W.heap.size := (Array.getElem?_eq_some_iff.1 h).1
theorem TBox.cell0 {W : World} {B : Nat} {s : ByteArray} {v : Value} (h : TBox W B s v) : W.cell? ⟨B, 0, none⟩ = some (.string s) := by simp [World.cell?, show W.heap[B]? = _ from h]
theorem TBox.cell1 {W : World} {B : Nat} {s : ByteArray} {v : Value} (h : TBox W B s v) : W.cell? ⟨B, 1, none⟩ = some v := by simp [World.cell?, show W.heap[B]? = _ from h]
theorem TBox.frozen {W : World} {B : Nat} {s : ByteArray} {v : Value} (h : TBox W B s v) (o : Nat) : W.frozen? ⟨B, o, none⟩ = false := by simp [World.frozen?, show W.heap[B]? = _ from h]
theorem TBox.set1 {W : World} {B : Nat} {s : ByteArray} {v : Value} (v' : Value) (h : TBox W B s v) : TBox (W.setCell ⟨B, 1, none⟩ v') B s v' := by
  unfold TBox at *
  simp [World.setCell, Array.getElem?_modify, h]
theorem TBox.new (W : World) (s : ByteArray) (v : Value) : TBox (W.alloc (.cells #[.string s, v] 29)) W.heap.size s v := World.alloc_heap_new W _

/-- The cells of a row of types. -/
def newsT (V : Nat → Value) (k : Nat) : List Value := (List.range k).flatMap fun q => [.string (mkT q).1, V q]
theorem newsT_succ (V : Nat → Value) (k : Nat) : newsT V (k + 1) = newsT V k ++ [.string (mkT k).1, V k] := by simp [newsT, List.range_succ]
theorem newsT_congr {V V' : Nat → Value} {k : Nat} (h : ∀ q, q < k → V q = V' q) : newsT V k = newsT V' k := by
  induction k with
  | zero => rfl
  | succ k ih => rw [newsT_succ, newsT_succ, ih (fun q hq => h q (by omega)), h k (by omega)]
theorem newsF_succ (f : Nat) : newsF (fieldsTo (f + 1)) = newsF (fieldsTo f) ++ [.string (mkF f).1, .int .i64 ((1 + f % 3 : Nat) : Int)] := by simp [newsF, fieldsTo, List.range_succ]
theorem fieldsTo_len (j : Nat) : (fieldsTo j).length = j := by simp [fieldsTo]
theorem typesTo_len (k j : Nat) : (typesTo k j).length = k := by simp [typesTo]

theorem newsT_len (V : Nat → Value) (k : Nat) : (newsT V k).length = k * 2 := by
  induction k with
  | zero => rfl
  | succ k ih => rw [newsT_succ, List.length_append, ih]; simp; omega
theorem newsT_at (V : Nat → Value) (k : Nat) : ∀ q, q < k → (newsT V k)[q * 2]? = some (.string (mkT q).1) ∧ (newsT V k)[q * 2 + 1]? = some (V q) := by
  induction k with
  | zero => intro q hq; omega
  | succ k ih =>
    intro q hq
    have hl := newsT_len V k
    rw [newsT_succ]
    by_cases e : q = k
    · subst e
      rw [List.getElem?_append_right (by omega), List.getElem?_append_right (by omega), hl]
      have e1 : q * 2 + 1 - q * 2 = 1 := by omega
      rw [e1]
      simp
    · rw [List.getElem?_append_left (by omega), List.getElem?_append_left (by omega)]
      exact ih q (by omega)

/-- What the cells of an owned row hold. -/
theorem owns_cells {W : World} {base : Nat} {e : TypeId} {a : Option Addr} {size n c : Nat} {xs : List Value} (h : W.ownsRow base e size (.slice a n c) n xs) (hn : 0 < n) :
    ∃ g, a = some ⟨g, 0, none⟩ ∧ base ≤ g ∧ g < W.heap.size ∧ n ≤ c ∧ (∃ cur, W.heap[g]? = some (.cells cur e (0, 0))) ∧ (∀ i, i < n * size → W.cell? ⟨g, i, none⟩ = xs[i]?) ∧ ∀ i, W.frozen? ⟨g, i, none⟩ = false := by
  rcases h.2 with ⟨h0, h1⟩ | ⟨g, cap, cur, h0, hb, hg, hnc, _, _, ht⟩
  · omega
  · simp only [Value.slice.injEq, true_and] at h0
    obtain ⟨rfl, rfl⟩ := h0
    refine ⟨g, rfl, hb, (Array.getElem?_eq_some_iff.1 hg).1, hnc, ⟨cur, hg⟩, fun i hi => ?_, fun i => by simp [World.frozen?, hg]⟩
    rw [← ht, List.getElem?_take, if_pos hi, Array.getElem?_toList]
    simp [World.cell?, hg]

theorem flds_gen {W : World} {g j : Nat} (S : Nat → Txt) (K : Nat → Int) (hg : g < W.heap.size) (hc : ∀ f, f < j → W.cell? ⟨g, f * 2, none⟩ = some (.string (S f).1) ∧ W.cell? ⟨g, f * 2 + 1, none⟩ = some (.int .i64 (K f))) :
    Flds W.heap.size W (some ⟨g, 0, none⟩) ((List.range j).map fun f => (S f, K f)) := by
  refine .inr ⟨g, 0, rfl, hg, fun f hf => ?_⟩
  have hf' : f < j := by simpa using hf
  have e : fd ((List.range j).map fun f => (S f, K f)) f = (S f, K f) := by simp [fd, hf']
  rw [e, Nat.zero_add]
  exact hc f hf'
theorem typs_gen {W : World} {g i : Nat} (S : Nat → Txt) (FS : Nat → List Fd) (hl : ∀ q, q < i → (FS q).length ≤ 8) (hg : g < W.heap.size) (hc : ∀ q, q < i → W.cell? ⟨g, q * 2, none⟩ = some (.string (S q).1) ∧ ∃ a' c', W.cell? ⟨g, q * 2 + 1, none⟩ = some (.slice a' (FS q).length c') ∧ Flds W.heap.size W a' (FS q)) :
    Typs W.heap.size W (some ⟨g, 0, none⟩) ((List.range i).map fun q => (S q, FS q)) := by
  refine .inr ⟨g, 0, rfl, hg, fun q hq => ?_⟩
  have hq' : q < i := by simpa using hq
  have e : ty ((List.range i).map fun q => (S q, FS q)) q = (S q, FS q) := by simp [ty, hq']
  rw [e, Nat.zero_add]
  obtain ⟨h1, a', c', h2, h3⟩ := hc q hq'
  exact ⟨h1, a', c', h2, h3, Nat.le_trans (hl q hq') (by decide)⟩

/-- What lies behind the loops: the schema's box, the row of types, the rows of fields, apart from each other. -/
def Fin0 (n₀ i j : Nat) (w1 W : World) (a : Option Addr) (c : Nat) : Prop :=
  ∃ V, Boxed W n₀ 25 (.slice a i c) ∧ W.ownsRow n₀ 29 2 (.slice a i c) i (newsT V i) ∧ (∀ q, q < i → W.ownsRow n₀ 31 2 (V q) j (newsF (fieldsTo j))) ∧ (∀ p q, p < q → q < i → ∀ g g', (V p).ownBlock = some g → (V q).ownBlock = some g' → g < g') ∧ Below n₀ w1 W

theorem V_form {W : World} {base j : Nat} {u : Value} {xs : List Value} (h : W.ownsRow base 31 2 u j xs) : ∃ a c, u = .slice a j c := by
  rcases h.2 with ⟨rfl, h0⟩ | ⟨g, cap, cur, rfl, _⟩
  · exact ⟨none, 0, by rw [h0]⟩
  · exact ⟨_, _, rfl⟩

theorem flds_own {W : World} {base j : Nat} {a : Option Addr} {c : Nat} (h : W.ownsRow base 31 2 (.slice a j c) j (newsF (fieldsTo j))) : Flds W.heap.size W a (fieldsTo j) := by
  have h' : W.ownsRow base 31 2 (.slice a j c) (fieldsTo j).length (newsF (fieldsTo j)) := by rw [fieldsTo_len]; exact h
  obtain ⟨a', c', e, hF, _⟩ := flds_of_owns h'
  simp only [Value.slice.injEq] at e
  obtain ⟨rfl, _, rfl⟩ := e
  exact hF

/-- As it was made. -/
theorem typs_0 {n₀ i j : Nat} {w1 W : World} {a : Option Addr} {c : Nat} (hj : j < 8) (h : Fin0 n₀ i j w1 W a c) : Typs W.heap.size W a (typesTo i j) := by
  obtain ⟨V, _, hrow, hV, _, _⟩ := h
  rcases Nat.eq_zero_or_pos i with rfl | hi
  · exact .inl rfl
  obtain ⟨g, rfl, _, hg, _, _, hcell, _⟩ := owns_cells hrow hi
  refine typs_gen mkT (fun _ => fieldsTo j) (fun _ _ => by rw [fieldsTo_len]; omega) hg fun q hq => ?_
  obtain ⟨a', c', e⟩ := V_form (hV q hq)
  have h1 := hV q hq
  rw [e] at h1
  refine ⟨(hcell _ (by omega)).trans (newsT_at V i q hq).1, a', c', ?_, flds_own h1⟩
  rw [fieldsTo_len, hcell _ (by omega), (newsT_at V i q hq).2, e]

/-- The last type's name overwritten. -/
theorem typs_1 {n₀ p j : Nat} {w1 W : World} {g : Nat} {c : Nat} (hj : j < 8) (h : Fin0 n₀ (p + 2) j w1 W (some ⟨g, 0, none⟩) c) :
    Typs (W.setCell ⟨g, (p + 1) * 2, none⟩ (.string (mkT p).1)).heap.size (W.setCell ⟨g, (p + 1) * 2, none⟩ (.string (mkT p).1)) (some ⟨g, 0, none⟩) (types1 (p + 2) j) := by
  obtain ⟨V, _, hrow, hV, _, _⟩ := h
  obtain ⟨g', e, _, hg, _, ⟨cur, hcur⟩, hcell, _⟩ := owns_cells hrow (by omega)
  cases e
  refine typs_gen (fun q => if q = p + 2 - 1 then mkT (p + 2 - 2) else mkT q) (fun _ => fieldsTo j) (fun _ _ => by rw [fieldsTo_len]; omega) (by simpa using hg) fun q hq => ?_
  obtain ⟨a', c', e⟩ := V_form (hV q hq)
  have h1 := hV q hq
  rw [e] at h1
  have hF := (flds_own h1).set ⟨g, (p + 1) * 2, none⟩ (.string (mkT p).1) (fun ad ea => by
    obtain ⟨_, cur', hc'⟩ := owns_lt h1 (by rw [ea]; rfl)
    intro eg
    simp only at eg
    rw [← eg, hcur] at hc'
    cases hc')
  refine ⟨?_, a', c', ?_, by simpa using hF⟩
  · by_cases eq : q = p + 1
    · subst eq
      rw [if_pos (by omega)]
      exact World.cell?_setCell_same' _ _ _ (by rw [hcell _ (by omega), (newsT_at V (p + 2) (p + 1) hq).1]; rfl)
    · rw [if_neg (by omega)]
      rw [World.cell?_setCell_other _ _ _ _ (fun ee => eq (by have := (Addr.mk.inj ee).2.1; omega))]
      exact (hcell _ (by omega)).trans (newsT_at V (p + 2) q hq).1
  · rw [World.cell?_setCell_other _ _ _ _ (fun ee => by have := (Addr.mk.inj ee).2.1; omega), fieldsTo_len, hcell _ (by omega), (newsT_at V (p + 2) q hq).2, e]

/-- The first type's last field's name overwritten. -/
theorem typs_2 {n₀ p r : Nat} {w1 W : World} {g g0 c c0 : Nat} (hj : r + 2 < 8) (h : Fin0 n₀ (p + 1) (r + 2) w1 W (some ⟨g, 0, none⟩) c) (h0 : W.cell? ⟨g, 1, none⟩ = some (.slice (some ⟨g0, 0, none⟩) (r + 2) c0)) :
    Typs (W.setCell ⟨g0, (r + 1) * 2, none⟩ (.string (mkF 0).1)).heap.size (W.setCell ⟨g0, (r + 1) * 2, none⟩ (.string (mkF 0).1)) (some ⟨g, 0, none⟩) (types2 (p + 1) (r + 2)) := by
  obtain ⟨V, _, hrow, hV, hap, _⟩ := h
  obtain ⟨g', e, _, hg, _, ⟨cur, hcur⟩, hcell, _⟩ := owns_cells hrow (by omega)
  cases e
  have e0 : V 0 = .slice (some ⟨g0, 0, none⟩) (r + 2) c0 := by
    have h1 := hcell 1 (by omega)
    rw [h0] at h1
    have h2 := (newsT_at V (p + 1) 0 (by omega)).2
    rw [Nat.zero_mul, Nat.zero_add, ← h1] at h2
    simpa using h2.symm
  have h0r := hV 0 (by omega)
  rw [e0] at h0r
  obtain ⟨g0', ee, _, hg0, _, ⟨cur0, hcur0⟩, hcell0, _⟩ := owns_cells h0r (by omega)
  cases ee
  have hgg : g0 ≠ g := by
    intro e
    rw [e, hcur] at hcur0
    cases hcur0
  refine typs_gen mkT (fun q => if q = 0 then fields2 (r + 2) else fieldsTo (r + 2)) (fun q _ => by split <;> simp [fields2, fieldsTo] <;> omega) (by simpa using hg) fun q hq => ?_
  refine ⟨(World.cell?_setCell_other _ _ _ _ (fun ee => hgg (Addr.mk.inj ee).1)).trans ((hcell _ (by omega)).trans (newsT_at V (p + 1) q hq).1), ?_⟩
  rw [World.cell?_setCell_other _ _ _ _ (fun ee => hgg (Addr.mk.inj ee).1), hcell _ (by omega), (newsT_at V (p + 1) q hq).2]
  by_cases eq : q = 0
  · subst eq
    rw [if_pos rfl, e0]
    refine ⟨some ⟨g0, 0, none⟩, c0, by simp [fields2], ?_⟩
    refine flds_gen (fun f => if f = r + 2 - 1 then mkF 0 else mkF f) (fun f => ((1 + f % 3 : Nat) : Int)) (by simpa using hg0) fun f hf => ?_
    have hat := newsF_at (fieldsTo (r + 2)) f (by rw [fieldsTo_len]; exact hf)
    have hfd : fd (fieldsTo (r + 2)) f = (mkF f, ((1 + f % 3 : Nat) : Int)) := by simp [fd, fieldsTo, hf]
    rw [hfd] at hat
    refine ⟨?_, ?_⟩
    · by_cases ef : f = r + 1
      · subst ef
        rw [if_pos (by omega)]
        exact World.cell?_setCell_same' _ _ _ (by rw [hcell0 _ (by omega), hat.1]; rfl)
      · rw [if_neg (by omega), World.cell?_setCell_other _ _ _ _ (fun ee => ef (by have := (Addr.mk.inj ee).2.1; omega))]
        exact (hcell0 _ (by omega)).trans hat.1
    · rw [World.cell?_setCell_other _ _ _ _ (fun ee => by have := (Addr.mk.inj ee).2.1; omega)]
      exact (hcell0 _ (by omega)).trans hat.2
  · rw [if_neg eq]
    obtain ⟨a', c', e⟩ := V_form (hV q hq)
    have h1 := hV q hq
    rw [e] at h1
    refine ⟨a', c', by rw [e, fieldsTo_len], ?_⟩
    have := (flds_own h1).set ⟨g0, (r + 1) * 2, none⟩ (.string (mkF 0).1) (fun ad ea => by
      have hb := hap 0 q (by omega) hq g0 ad.block (by rw [e0]; rfl) (by rw [e, ea]; rfl)
      simp only
      omega)
    simpa using this

end Go.Proofs.Ytndjoopnldnckaa
