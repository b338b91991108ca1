/-
  A schema that came in, as it is read: its types, their names and fields, as they lie in memory.
-/
import Derived.Test.YtndjoopnldnckaaKnown
import Derived.Lib.SmallJoins
import Derived.Deep.SlicePairs
import Derived.ProofKit
import Derived.OpenShut
namespace Go.Proofs.Ytndjoopnldnckaa
open Go.ChangeShapes Go.WideShapes Go.ChangeAt Go.RowKit Go.WideMaps Go.WideElems

theorem cells9 : Try.prog.cellsOf 9 = 1 := by kernel_rfl
theorem cells3 : Try.prog.cellsOf 3 = 1 := by kernel_rfl
theorem cells27 : Try.prog.cellsOf 27 = 1 := by kernel_rfl
theorem cells23 : Try.prog.cellsOf 23 = 1 := by kernel_rfl
theorem cells25 : Try.prog.cellsOf 25 = 1 := by kernel_rfl
theorem cells29 : Try.prog.cellsOf 29 = 2 := by kernel_rfl
theorem cells31 : Try.prog.cellsOf 31 = 2 := by kernel_rfl

section
variable {H : Type} {enc : TypeId × Value → H} {W : World} {bs : Nat} {sp : Nat → Bool} {hd : Bool}

theorem fd_map (F : Nat → Fd) (n j : Nat) (hj : j < n) : fd ((List.range n).map F) j = F j := by simp [fd, hj]
theorem ty_map (F : Nat → Ty) (n j : Nat) (hj : j < n) : ty ((List.range n).map F) j = F j := by simp [ty, hj]

/-- Fields, as they are read. -/
theorem open_fields {fuel : Nat} {v : Value} {y : DataW H × List MemPlace} (hf : DataW.trod enc Try.prog W bs sp hd fuel 27 [v] = some y) :
    ∃ a c fs, v = .slice a fs.length c ∧ fs.length ≤ maxLen ∧ Flds W.heap.size W a fs := by
  rcases Deep.open_slice_pairs Try.underlying27 Try.underlying31 cells31 rfl rfl cells9 cells3 hf with ⟨hcs, _⟩ | ⟨ad, len, cap, m, n, V0, V1, D0, D1, P0, P1, hcs, _, hl, hcap, hm, _, hx⟩
  · simp only [List.cons.injEq, and_true] at hcs
    subst hcs
    exact ⟨none, 0, [], rfl, Nat.zero_le _, .inl rfl⟩
  · simp only [List.cons.injEq, and_true] at hcs
    subst hcs
    have hlm : len ≤ m := by rw [hm]; split <;> omega
    have each : ∀ i, i < len → ∃ f : Fd, V0 i = .string f.1.1 ∧ V1 i = .int .i64 f.2 := by
      intro i hi
      obtain ⟨_, _, h0, h1⟩ := hx i (by omega)
      obtain ⟨s, e0, _, hs⟩ := DataW.trod_string Try.underlying9 h0
      obtain ⟨k, e1, _⟩ := DataW.trod_int Try.underlying3 h1
      simp only [List.cons.injEq, and_true] at e0 e1
      exact ⟨(⟨s, hs⟩, k), e0, e1⟩
    obtain ⟨F, hF⟩ := Deep.choose_lt each
    refine ⟨some ad, cap, (List.range len).map F, by simp, by simp; omega, ?_⟩
    cases len with
    | zero => exact .inl rfl
    | succ l =>
      obtain ⟨b, off, spot⟩ := ad
      have hspot : spot = none := by simpa [Addr.add] using World.cell?_spot (hx 0 (by omega)).1
      subst hspot
      refine .inr ⟨b, off, rfl, ?_, fun j hj => ?_⟩
      · have := (hx 0 (by omega)).1
        rw [add_plain] at this
        exact cell_lt this
      · have hj' : j < l + 1 := by simpa using hj
        obtain ⟨h0, h1, _⟩ := hx j (by omega)
        rw [add_plain] at h0 h1
        rw [← Nat.add_assoc] at h1
        rw [fd_map F _ j hj', h0, h1, (hF j hj').1, (hF j hj').2]
        exact ⟨rfl, rfl⟩

/-- Types, as they are read. -/
theorem open_types {fuel : Nat} {v : Value} {y : DataW H × List MemPlace} (hf : DataW.trod enc Try.prog W bs sp hd fuel 23 [v] = some y) :
    ∃ a c ts, v = .slice a ts.length c ∧ ts.length ≤ c ∧ ts.length ≤ maxLen ∧ Typs W.heap.size W a ts := by
  rcases Deep.open_slice_pairs Try.underlying23 Try.underlying29 cells29 rfl rfl cells9 cells27 hf with ⟨hcs, _⟩ | ⟨ad, len, cap, m, n, V0, V1, D0, D1, P0, P1, hcs, _, hl, hcap, hm, _, hx⟩
  · simp only [List.cons.injEq, and_true] at hcs
    subst hcs
    exact ⟨none, 0, [], rfl, Nat.zero_le _, Nat.zero_le _, .inl rfl⟩
  · simp only [List.cons.injEq, and_true] at hcs
    subst hcs
    have hlm : len ≤ m := by rw [hm]; split <;> omega
    have each : ∀ i, i < len → ∃ f : Ty, V0 i = .string f.1.1 ∧ ∃ a c, V1 i = .slice a f.2.length c ∧ f.2.length ≤ maxLen ∧ Flds W.heap.size W a f.2 := by
      intro i hi
      obtain ⟨_, _, h0, h1⟩ := hx i (by omega)
      obtain ⟨s, e0, _, hs⟩ := DataW.trod_string Try.underlying9 h0
      obtain ⟨a, c, fs, e1, h2, h3⟩ := open_fields h1
      simp only [List.cons.injEq, and_true] at e0
      exact ⟨(⟨s, hs⟩, fs), e0, a, c, e1, h2, h3⟩
    obtain ⟨F, hF⟩ := Deep.choose_lt each
    refine ⟨some ad, cap, (List.range len).map F, by simp, by simp; omega, by simp; omega, ?_⟩
    cases len with
    | zero => exact .inl rfl
    | succ l =>
      obtain ⟨b, off, spot⟩ := ad
      have hspot : spot = none := by simpa [Addr.add] using World.cell?_spot (hx 0 (by omega)).1
      subst hspot
      refine .inr ⟨b, off, rfl, ?_, fun j hj => ?_⟩
      · have := (hx 0 (by omega)).1
        rw [add_plain] at this
        exact cell_lt this
      · have hj' : j < l + 1 := by simpa using hj
        obtain ⟨h0, h1, _⟩ := hx j (by omega)
        rw [add_plain] at h0 h1
        rw [← Nat.add_assoc] at h1
        obtain ⟨e0, a, c, e1, h2, h3⟩ := hF j hj'
        rw [ty_map F _ j hj', h0, e0]
        exact ⟨rfl, a, c, by rw [← e1]; exact h1, h3, h2⟩

/-- A schema, as it is read. -/
theorem open_schema {r : Reach} {b0 : Nat} {v : Value} {d : DataW H} {p : List MemPlace} (hv : Value.okWide Try.prog W r b0 25 v) (h : DataW.Trod enc Try.prog W bs sp hd 25 v d p) :
    ∃ a c ts, v = .agg #[.slice a ts.length c] ∧ ts.length ≤ c ∧ ts.length ≤ maxLen ∧ Typs W.heap.size W a ts := by
  obtain ⟨cs, rfl, hsz⟩ := okWide_struct Try.underlying25 hv
  obtain ⟨c0, rfl⟩ : ∃ c0, cs = #[c0] := by
    rw [cells25] at hsz
    obtain ⟨l⟩ := cs
    match l, hsz with
    | [c0], _ => exact ⟨c0, rfl⟩
  obtain ⟨fuel, hf⟩ := h
  obtain ⟨xs, n, _, hx, hl, hlen, hfs⟩ := DataW.trod_struct Try.underlying25 hf
  have h0 : DataW.trod enc Try.prog W bs sp hd n 23 (List.take (Try.prog.cellsOf 23) (List.drop 0 (Value.agg #[c0]).cells.toList)) = xs[0]? := hfs 0 _ rfl
  obtain ⟨x0, hx0⟩ : ∃ x0, xs[0]? = some x0 := by
    match xs, hlen with
    | x0 :: _, _ => exact ⟨x0, rfl⟩
  rw [cells23, hx0] at h0
  have e1 : List.take 1 (List.drop 0 (Value.agg #[c0]).cells.toList) = [c0] := by simp [Value.cells]
  rw [e1] at h0
  obtain ⟨a, c, ts, e, h1, h2, h3⟩ := open_types h0
  exact ⟨a, c, ts, by rw [e], h1, h2, h3⟩

end
end Go.Proofs.Ytndjoopnldnckaa
