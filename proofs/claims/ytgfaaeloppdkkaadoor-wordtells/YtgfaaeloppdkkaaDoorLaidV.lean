/-
  What the row's condition gives a walk: the package variables of package word stand as its text lays them, and strconv's ErrRange holds an error; a world in which the condition is met.
-/
import Derived.Test.YtgfaaeloppdkkaaDoorWKnown
import Derived.Test.YtgfaaeloppdkkaaDoorRows
import Derived.ProofKit
import Derived.LaidMore
import Derived.LaidSub
import Derived.OpenShut
import Derived.Stop.Joined
import Derived.Stop.LaidErr
namespace Go.Proofs.YtgfaaeloppdkkaaDoor
open Go.ChangeShapes Go.WideShapes Go.ChangeAt Go.WideMaps Go.WideElems Go.RowKit

theorem laid_head {P : Program} {n : String} {D : DataW Unit} {r : List (String × DataW Unit)} {W : World} (h : laidMet P ((n, D) :: r) W) {g : Nat} {t : TypeId} (hg : P.globalNamed n = some g) (ht : (P.globals[g]?).map (·.type) = some t) :
    ∃ cs fuel p, W.var? P n = some cs ∧ DataW.trod (fun _ => ()) P W 0 (fun _ => true) false fuel t cs.toList = some (D, p) := by
  obtain ⟨ps, ⟨g0, t0, cs0, f0, p0, q0, hg0, ht0, hv0, hd0, _, _⟩, _, _⟩ := h
  obtain rfl := Option.some.inj (hg.symm.trans hg0)
  obtain rfl := Option.some.inj (ht.symm.trans ht0)
  exact ⟨cs0, f0, p0, hv0, hd0⟩

theorem under83 : ∃ f0 f1 : Field, Tryd.prog.underlying 83 = some (.struct #[f0, f1]) ∧ (f0.type = 5 ∧ f0.offset = 0) ∧ (f1.type = 5 ∧ f1.offset = 1) := ⟨_, _, Tryd.underlying83, ⟨rfl, rfl⟩, ⟨rfl, rfl⟩⟩
theorem cells5 : Tryd.prog.cellsOf 5 = 1 := by kernel_rfl
theorem cells83 : Tryd.prog.cellsOf 83 = 2 := by kernel_rfl
theorem cells9 : Tryd.prog.cellsOf 9 = 1 := by kernel_rfl
theorem cells97 : Tryd.prog.cellsOf 97 = 16 := by kernel_rfl
theorem laid_span {n : String} {a b : Int} {r : List (String × DataW Unit)} {W : World} (h : laidMet Tryd.prog ((n, .agg [.lit (.int .u8 a), .lit (.int .u8 b)]) :: r) W) {g : Nat} (hg : Tryd.prog.globalNamed n = some g) (ht : (Tryd.prog.globals[g]?).map (·.type) = some 83) :
    W.cell? ⟨g, 0, none⟩ = some (.int .u8 a) ∧ W.cell? ⟨g, 1, none⟩ = some (.int .u8 b) := by
  obtain ⟨cs, f, p, hv, hd⟩ := laid_head h hg ht
  obtain ⟨f0, f1, hu, ⟨t0, o0⟩, ⟨t1, o1⟩⟩ := under83
  obtain ⟨y0, y1, m, hx, hl, h0, h1⟩ := trod_struct2 hu hd
  rw [t0, o0, cells5] at h0
  rw [t1, o1, cells5] at h1
  obtain ⟨n0, e0, rfl, _⟩ := DataW.trod_int Tryd.underlying5 h0
  obtain ⟨n1, e1, rfl, _⟩ := DataW.trod_int Tryd.underlying5 h1
  simp at hx
  obtain ⟨⟨rfl, rfl⟩, _⟩ := hx
  rw [cells83] at hl
  obtain ⟨l⟩ := cs
  match l, hl, e0, e1 with
  | [x, y], _, e0, e1 =>
    simp at e0 e1
    subst e0 e1
    exact ⟨by simpa using World.var?_cell hg hv 0, by simpa using World.var?_cell hg hv 1⟩

theorem under97 : Tryd.prog.underlying 97 = some (.array 16 9) := Tryd.underlying97
theorem laid_signs {r : List (String × DataW Unit)} {W : World} (h : laidMet Tryd.prog (("pastern/word.signs", Rows.laid_pastern_word_signs) :: r) W) :
    ∀ i, i < 16 → W.cell? ⟨4, i, none⟩ = signsV[i]? := by
  have hg : Tryd.prog.globalNamed "pastern/word.signs" = some 4 := by kernel_rfl
  obtain ⟨cs, f, p, hv, hd⟩ := laid_head h hg (by kernel_rfl)
  obtain ⟨xs, m, _, hx, hl, hxl, hel⟩ := DataW.trod_array under97 hd
  rw [cells97] at hl
  intro i hi
  have hi' := hel i hi
  rw [cells9, Nat.mul_one] at hi'
  obtain ⟨y, hy⟩ : ∃ y, xs[i]? = some y := ⟨_, List.getElem?_eq_getElem (by omega)⟩
  rw [hy] at hi'
  obtain ⟨s, es, rfl, _⟩ := DataW.trod_string Tryd.underlying9 hi'
  have hc : cs[i]? = some (.string s) := by
    have : (cs.toList.drop i).take 1 = [Value.string s] := es
    have h2 : (cs.toList.drop i).head? = some (.string s) := by
      cases hq : cs.toList.drop i with
      | nil => rw [hq] at this; cases this
      | cons a b => rw [hq] at this; simp at this; simp [this]
    rw [List.head?_drop, Array.getElem?_toList] at h2
    exact h2
  have hxi : (xs.map (·.1))[i]? = some (.lit (.string s.data.toList)) := by rw [List.getElem?_map, hy]; rfl
  have hsg : signsV[i]? = some (.string s) := by
    have hD : (Rows.laid_pastern_word_signs : DataW Unit) = .agg (xs.map (·.1)) := (Prod.mk.injEq .. ▸ hx).1
    have hL : (xs.map (·.1)) = (signsL.map fun t => (DataW.lit (Lit.string t) : DataW Unit)) := by
      have e : (Rows.laid_pastern_word_signs : DataW Unit) = .agg (signsL.map fun t => (DataW.lit (Lit.string t) : DataW Unit)) := rfl
      rw [e] at hD
      injection hD with hD
      exact hD.symm
    rw [hL, List.getElem?_map] at hxi
    obtain ⟨t, ht, et⟩ := Option.map_eq_some_iff.1 hxi
    injection et with et
    injection et with et
    have hV : signsV[i]? = (signsL.map fun t => Value.string ⟨t.toArray⟩)[i]? := by
      have : signsV.toList = signsL.map fun t => Value.string ⟨t.toArray⟩ := rfl
      rw [← this, Array.getElem?_toList]
    rw [hV, List.getElem?_map, ht, et]
    simp
  rw [hsg, ← hc]
  exact World.var?_cell hg hv i

theorem vars_of_met {W : World} {r : List (String × DataW Unit)} (h : laidMet Tryd.prog (("strconv.ErrRange", Rows.laid_strconv_ErrRange) :: ("strconv.ErrSyntax", Rows.laid_strconv_ErrSyntax) :: ("pastern/word.small", Rows.laid_pastern_word_small) :: ("pastern/word.great", Rows.laid_pastern_word_great) :: ("pastern/word.digit", Rows.laid_pastern_word_digit) :: ("pastern/word.printed", Rows.laid_pastern_word_printed) :: ("pastern/word.signs", Rows.laid_pastern_word_signs) :: r) W) : Vars W := by
  have h2 := h.tail.tail
  obtain ⟨a0, a1⟩ := laid_span (n := "pastern/word.small") (g := 1) h2 (by kernel_rfl) (by kernel_rfl)
  obtain ⟨b0, b1⟩ := laid_span (n := "pastern/word.great") (g := 2) h2.tail (by kernel_rfl) (by kernel_rfl)
  obtain ⟨c0, c1⟩ := laid_span (n := "pastern/word.digit") (g := 3) h2.tail.tail (by kernel_rfl) (by kernel_rfl)
  obtain ⟨d0, d1⟩ := laid_span (n := "pastern/word.printed") (g := 5) h2.tail.tail.tail (by kernel_rfl) (by kernel_rfl)
  have hg : Tryd.prog.globalNamed "strconv.ErrRange" = some 7 := by kernel_rfl
  obtain ⟨cs, f, p, hv, hd⟩ := laid_head h hg (t := 25) (by kernel_rfl)
  obtain ⟨_, u, v, e, _⟩ := iface_of_trod Tryd.underlying25 hd
  have hc : W.cell? ⟨7, 0, none⟩ = some (.iface u v) := by
    have := World.var?_cell hg hv 0
    rw [Array.eq_one_of_toList e] at this
    simpa using this
  exact ⟨block_lt_of_cell hc, a0, a1, b0, b1, c0, c1, d0, d1, laid_signs h2.tail.tail.tail.tail, ⟨u, v, hc⟩⟩

/-- The rows' list, as the given rows have it where they don't list errors.errorType. -/
def laid10 : List (String × DataW Unit) := [("math/bits.deBruijn32tab", Rows.laid_math_bits_deBruijn32tab), ("math/bits.deBruijn64tab", Rows.laid_math_bits_deBruijn64tab), ("internal/strconv.uint64pow10", Rows.laid_internal_strconv_uint64pow10), ("strconv.ErrRange", Rows.laid_strconv_ErrRange), ("strconv.ErrSyntax", Rows.laid_strconv_ErrSyntax), ("pastern/word.small", Rows.laid_pastern_word_small), ("pastern/word.great", Rows.laid_pastern_word_great), ("pastern/word.digit", Rows.laid_pastern_word_digit), ("pastern/word.printed", Rows.laid_pastern_word_printed), ("pastern/word.signs", Rows.laid_pastern_word_signs)]
theorem vars_of_laid {W : World} (h : laidMetH Tryd.prog laid10 W) : Vars W := by
  rw [MakeChecks.laidMetH_plain _ _ _ (by kernel_rfl)] at h
  exact vars_of_met (r := []) (laidMet.tail (laidMet.tail (laidMet.tail h)))

/-- The door's own heap meets the condition. -/
theorem door_met (os : Os) (args : Array Value) : laidMetH Tryd.prog laid10 ((World.doorLaid Tryd.prog 94 os).forCall (fun _ _ => 0) ⟨#[], args, []⟩).memory :=
  laidMetH_of_parts3 (fuel := 8) (laidMet_of_run' 8 (by kernel_rfl) (by kernel_rfl)) (by kernel_rfl) (by kernel_rfl)

end Go.Proofs.YtgfaaeloppdkkaaDoor
