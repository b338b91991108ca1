/-
  A schema, an event and a change that came in, as they are read: types, their names and fields, values, as they lie in memory.
-/
import Derived.Test.YtcjpaldijngnpaaGreatDoorChIter
import Derived.Lib.SmallJoins
import Derived.Deep.SlicePairs
import Derived.ProofKit
import Derived.OpenShut
namespace Go.Proofs.YtcjpaldijngnpaaGreatDoor
open Go.ChangeShapes Go.WideShapes Go.ChangeAt Go.RowKit Go.WideMaps Go.WideElems

theorem cellsStr : Tryz.prog.cellsOf 9 = 1 := by kernel_rfl
theorem cellsInt : Tryz.prog.cellsOf 3 = 1 := by kernel_rfl
theorem cellsFds : Tryz.prog.cellsOf 67 = 1 := by kernel_rfl
theorem cellsTys : Tryz.prog.cellsOf 22 = 1 := by kernel_rfl
theorem cellsSch : Tryz.prog.cellsOf 24 = 1 := by kernel_rfl
theorem cellsTy : Tryz.prog.cellsOf 69 = 2 := by kernel_rfl
theorem cellsFd : Tryz.prog.cellsOf 66 = 2 := by kernel_rfl

set_option maxRecDepth 100000

section
variable {H : Type} {enc : TypeId × Value → H} {W : World} {bs : Nat} {sp : Nat → Bool} {hd : Bool}

theorem fd_map (F : Nat → Fd) (n j : Nat) (hj : j < n) : fd ((List.range n).map F) j = F j := by simp [fd, hj]
theorem ty_map (F : Nat → Ty) (n j : Nat) (hj : j < n) : ty ((List.range n).map F) j = F j := by simp [ty, hj]

/-- Fields, as they are read. -/
theorem open_fields {fuel : Nat} {v : Value} {y : DataW H × List MemPlace} (hf : DataW.trod enc Tryz.prog W bs sp hd fuel 67 [v] = some y) :
    ∃ a c fs, v = .slice a fs.length c ∧ fs.length ≤ maxLen ∧ Flds W.heap.size W a fs := by
  rcases Deep.open_slice_pairs Tryz.underlying67 Tryz.underlying66 cellsFd rfl rfl cellsStr cellsInt hf with ⟨hcs, _⟩ | ⟨ad, len, cap, m, n, V0, V1, D0, D1, P0, P1, hcs, _, hl, hcap, hm, _, hx⟩
  · simp only [List.cons.injEq, and_true] at hcs
    subst hcs
    exact ⟨none, 0, [], rfl, Nat.zero_le _, .inl rfl⟩
  · simp only [List.cons.injEq, and_true] at hcs
    subst hcs
    have hlm : len ≤ m := by rw [hm]; split <;> omega
    have each : ∀ i, i < len → ∃ f : Fd, V0 i = .string f.1.1 ∧ V1 i = .int .i64 f.2 := by
      intro i hi
      obtain ⟨_, _, h0, h1⟩ := hx i (by omega)
      obtain ⟨s, e0, _, hs⟩ := DataW.trod_string Tryz.underlying9 h0
      obtain ⟨k, e1, _⟩ := DataW.trod_int Tryz.underlying3 h1
      simp only [List.cons.injEq, and_true] at e0 e1
      exact ⟨(⟨s, hs⟩, k), e0, e1⟩
    obtain ⟨F, hF⟩ := Deep.choose_lt each
    refine ⟨some ad, cap, (List.range len).map F, by simp, by simp; omega, ?_⟩
    cases len with
    | zero => exact .inl rfl
    | succ l =>
      obtain ⟨b, off, spot⟩ := ad
      have hspot : spot = none := by simpa [Addr.add] using World.cell?_spot (hx 0 (by omega)).1
      subst hspot
      refine .inr ⟨b, off, rfl, ?_, fun j hj => ?_⟩
      · have := (hx 0 (by omega)).1
        rw [add_plain] at this
        exact cell_lt this
      · have hj' : j < l + 1 := by simpa using hj
        obtain ⟨h0, h1, _⟩ := hx j (by omega)
        rw [add_plain] at h0 h1
        rw [← Nat.add_assoc] at h1
        rw [fd_map F _ j hj', h0, h1, (hF j hj').1, (hF j hj').2]
        exact ⟨rfl, rfl⟩

/-- Types, as they are read. -/
theorem open_types {fuel : Nat} {v : Value} {y : DataW H × List MemPlace} (hf : DataW.trod enc Tryz.prog W bs sp hd fuel 22 [v] = some y) :
    ∃ a c ts, v = .slice a ts.length c ∧ ts.length ≤ c ∧ ts.length ≤ maxLen ∧ Typs W.heap.size W a ts := by
  rcases Deep.open_slice_pairs Tryz.underlying22 Tryz.underlying69 cellsTy rfl rfl cellsStr cellsFds hf with ⟨hcs, _⟩ | ⟨ad, len, cap, m, n, V0, V1, D0, D1, P0, P1, hcs, _, hl, hcap, hm, _, hx⟩
  · simp only [List.cons.injEq, and_true] at hcs
    subst hcs
    exact ⟨none, 0, [], rfl, Nat.zero_le _, Nat.zero_le _, .inl rfl⟩
  · simp only [List.cons.injEq, and_true] at hcs
    subst hcs
    have hlm : len ≤ m := by rw [hm]; split <;> omega
    have each : ∀ i, i < len → ∃ f : Ty, V0 i = .string f.1.1 ∧ ∃ a c, V1 i = .slice a f.2.length c ∧ f.2.length ≤ maxLen ∧ Flds W.heap.size W a f.2 := by
      intro i hi
      obtain ⟨_, _, h0, h1⟩ := hx i (by omega)
      obtain ⟨s, e0, _, hs⟩ := DataW.trod_string Tryz.underlying9 h0
      obtain ⟨a, c, fs, e1, h2, h3⟩ := open_fields h1
      simp only [List.cons.injEq, and_true] at e0
      exact ⟨(⟨s, hs⟩, fs), e0, a, c, e1, h2, h3⟩
    obtain ⟨F, hF⟩ := Deep.choose_lt each
    refine ⟨some ad, cap, (List.range len).map F, by simp, by simp; omega, by simp; omega, ?_⟩
    cases len with
    | zero => exact .inl rfl
    | succ l =>
      obtain ⟨b, off, spot⟩ := ad
      have hspot : spot = none := by simpa [Addr.add] using World.cell?_spot (hx 0 (by omega)).1
      subst hspot
      refine .inr ⟨b, off, rfl, ?_, fun j hj => ?_⟩
      · have := (hx 0 (by omega)).1
        rw [add_plain] at this
        exact cell_lt this
      · have hj' : j < l + 1 := by simpa using hj
        obtain ⟨h0, h1, _⟩ := hx j (by omega)
        rw [add_plain] at h0 h1
        rw [← Nat.add_assoc] at h1
        obtain ⟨e0, a, c, e1, h2, h3⟩ := hF j hj'
        rw [ty_map F _ j hj', h0, e0]
        exact ⟨rfl, a, c, by rw [← e1]; exact h1, h3, h2⟩

/-- A schema, as it is read. -/
theorem open_schema {r : Reach} {b0 : Nat} {v : Value} {d : DataW H} {p : List MemPlace} (hv : Value.okWide Tryz.prog W r b0 24 v) (h : DataW.Trod enc Tryz.prog W bs sp hd 24 v d p) :
    ∃ a c ts, v = .agg #[.slice a ts.length c] ∧ ts.length ≤ c ∧ ts.length ≤ maxLen ∧ Typs W.heap.size W a ts := by
  obtain ⟨cs, rfl, hsz⟩ := okWide_struct Tryz.underlying24 hv
  obtain ⟨c0, rfl⟩ : ∃ c0, cs = #[c0] := by
    rw [cellsSch] at hsz
    obtain ⟨l⟩ := cs
    match l, hsz with
    | [c0], _ => exact ⟨c0, rfl⟩
  obtain ⟨fuel, hf⟩ := h
  obtain ⟨xs, n, _, hx, hl, hlen, hfs⟩ := DataW.trod_struct Tryz.underlying24 hf
  have h0 : DataW.trod enc Tryz.prog W bs sp hd n 22 (List.take (Tryz.prog.cellsOf 22) (List.drop 0 (Value.agg #[c0]).cells.toList)) = xs[0]? := hfs 0 _ rfl
  obtain ⟨x0, hx0⟩ : ∃ x0, xs[0]? = some x0 := by
    match xs, hlen with
    | x0 :: _, _ => exact ⟨x0, rfl⟩
  rw [cellsTys, hx0] at h0
  have e1 : List.take 1 (List.drop 0 (Value.agg #[c0]).cells.toList) = [c0] := by simp [Value.cells]
  rw [e1] at h0
  obtain ⟨a, c, ts, e, h1, h2, h3⟩ := open_types h0
  exact ⟨a, c, ts, by rw [e], h1, h2, h3⟩

theorem cellsVl : Tryz.prog.cellsOf 40 = 3 := by kernel_rfl
theorem cellsI64 : Tryz.prog.cellsOf 2 = 1 := by kernel_rfl
theorem cellsVls : Tryz.prog.cellsOf 26 = 1 := by kernel_rfl
theorem cellsEv : Tryz.prog.cellsOf 28 = 3 := by kernel_rfl
theorem vl_map (F : Nat → Vl) (n j : Nat) (hj : j < n) : vl ((List.range n).map F) j = F j := by simp [vl, hj]

/-- Values, as they are read. -/
theorem open_vals {fuel : Nat} {v : Value} {y : DataW H × List MemPlace} (hf : DataW.trod enc Tryz.prog W bs sp hd fuel 26 [v] = some y) :
    ∃ a c vs, v = .slice a vs.length c ∧ vs.length ≤ maxLen ∧ Vals W.heap.size W a vs := by
  rcases Deep.open_slice Tryz.underlying26 hf with ⟨hcs, _⟩ | ⟨ad, len, cap, m, n, D, Pl, hcs, _, hl, hcap, hm, _, hx⟩
  · simp only [List.cons.injEq, and_true] at hcs
    subst hcs
    exact ⟨none, 0, [], rfl, Nat.zero_le _, .inl rfl⟩
  · simp only [List.cons.injEq, and_true] at hcs
    subst hcs
    have hlm : len ≤ m := by rw [hm]; split <;> omega
    have each : ∀ i, i < len → ∃ x : Vl, W.cell? (ad.add (i * 3)) = some (.int .i64 x.1) ∧ W.cell? (ad.add (i * 3 + 1)) = some (.int .i64 x.2.1) ∧ W.cell? (ad.add (i * 3 + 2)) = some (.string x.2.2.1) := by
      intro i hi
      obtain ⟨cs', h1, h2⟩ := hx i (by omega)
      rw [cellsVl] at h1
      obtain ⟨_, hlen, hcell⟩ := World.cells?_some h1
      obtain ⟨xs, k, _, _, _, hxl, hf⟩ := DataW.trod_struct Tryz.underlying40 h2
      match xs, hxl, cs', hlen with
      | [y0, y1, y2], _, [v0, v1, v2], _ =>
        have g0 := hf 0 _ rfl
        have g1 := hf 1 _ rfl
        have g2 := hf 2 _ rfl
        simp [cellsInt, cellsI64, cellsStr] at g0 g1 g2
        have e0 := hcell 0 (by omega)
        have e1 := hcell 1 (by omega)
        have e2 := hcell 2 (by omega)
        rw [Deep.add_add] at e0 e1 e2
        obtain ⟨k0, q0, _⟩ := DataW.trod_int Tryz.underlying3 g0
        obtain ⟨k1, q1, _⟩ := DataW.trod_int Tryz.underlying2 g1
        obtain ⟨s, q2, _, hs⟩ := DataW.trod_string Tryz.underlying9 g2
        simp only [List.cons.injEq, and_true] at q0 q1 q2
        subst q0 q1 q2
        exact ⟨(k0, k1, ⟨s, hs⟩), by simpa using e0, by simpa using e1, by simpa using e2⟩
    obtain ⟨F, hF⟩ := Deep.choose_lt each
    refine ⟨some ad, cap, (List.range len).map F, by simp, by simp; omega, ?_⟩
    cases len with
    | zero => exact .inl rfl
    | succ l =>
      obtain ⟨b, off, spot⟩ := ad
      have hspot : spot = none := by simpa [Addr.add] using World.cell?_spot (hF 0 (by omega)).1
      subst hspot
      refine .inr ⟨b, off, rfl, ?_, fun j hj => ?_⟩
      · have := (hF 0 (by omega)).1
        rw [add_plain] at this
        exact cell_lt this
      · have hj' : j < l + 1 := by simpa using hj
        obtain ⟨h0, h1, h2⟩ := hF j hj'
        rw [add_plain] at h0 h1 h2
        rw [← Nat.add_assoc] at h1 h2
        rw [vl_map F _ j hj']
        exact ⟨h0, h1, h2⟩

/-- An event, as it is read. -/
theorem open_event {r : Reach} {b0 : Nat} {v : Value} {d : DataW H} {p : List MemPlace} (hv : Value.okWide Tryz.prog W r b0 28 v) (h : DataW.Trod enc Tryz.prog W bs sp hd 28 v d p) :
    ∃ a c, ∃ x : Ev, v = .agg #[.string x.ty.1, .int .i64 x.ts, .slice a x.vs.length c] ∧ x.vs.length ≤ maxLen ∧ Vals W.heap.size W a x.vs := by
  obtain ⟨cs, rfl, hsz⟩ := okWide_struct Tryz.underlying28 hv
  obtain ⟨c0, c1, c2, rfl⟩ : ∃ c0 c1 c2, cs = #[c0, c1, c2] := by
    rw [cellsEv] at hsz
    obtain ⟨l⟩ := cs
    match l, hsz with
    | [c0, c1, c2], _ => exact ⟨c0, c1, c2, rfl⟩
  obtain ⟨fuel, hf⟩ := h
  obtain ⟨xs, n, _, hx, hl, hlen, hfs⟩ := DataW.trod_struct Tryz.underlying28 hf
  have h0 : DataW.trod enc Tryz.prog W bs sp hd n 9 (List.take (Tryz.prog.cellsOf 9) (List.drop 0 (Value.agg #[c0, c1, c2]).cells.toList)) = xs[0]? := hfs 0 _ rfl
  have h1 : DataW.trod enc Tryz.prog W bs sp hd n 3 (List.take (Tryz.prog.cellsOf 3) (List.drop 1 (Value.agg #[c0, c1, c2]).cells.toList)) = xs[1]? := hfs 1 _ rfl
  have h2 : DataW.trod enc Tryz.prog W bs sp hd n 26 (List.take (Tryz.prog.cellsOf 26) (List.drop 2 (Value.agg #[c0, c1, c2]).cells.toList)) = xs[2]? := hfs 2 _ rfl
  obtain ⟨x0, x1, x2, hx0, hx1, hx2⟩ : ∃ x0 x1 x2, xs[0]? = some x0 ∧ xs[1]? = some x1 ∧ xs[2]? = some x2 := by
    match xs, hlen with
    | x0 :: x1 :: x2 :: _, _ => exact ⟨x0, x1, x2, rfl, rfl, rfl⟩
  rw [cellsStr, hx0] at h0
  rw [cellsInt, hx1] at h1
  rw [cellsVls, hx2] at h2
  rw [show List.take 1 (List.drop 0 (Value.agg #[c0, c1, c2]).cells.toList) = [c0] by simp [Value.cells]] at h0
  rw [show List.take 1 (List.drop 1 (Value.agg #[c0, c1, c2]).cells.toList) = [c1] by simp [Value.cells]] at h1
  rw [show List.take 1 (List.drop 2 (Value.agg #[c0, c1, c2]).cells.toList) = [c2] by simp [Value.cells]] at h2
  obtain ⟨s, q0, _, hs⟩ := DataW.trod_string Tryz.underlying9 h0
  obtain ⟨k, q1, _⟩ := DataW.trod_int Tryz.underlying3 h1
  obtain ⟨a, c, vs, q2, h3, h4⟩ := open_vals h2
  simp only [List.cons.injEq, and_true] at q0 q1
  exact ⟨a, c, ⟨⟨s, hs⟩, k, vs⟩, by rw [q0, q1, q2], h3, h4⟩

theorem cellsCh : Tryz.prog.cellsOf 42 = 7 := by kernel_rfl
/-- A value, as it is read. -/
theorem open_val {fuel : Nat} {v0 v1 v2 : Value} {y : DataW H × List MemPlace} (hf : DataW.trod enc Tryz.prog W bs sp hd fuel 40 [v0, v1, v2] = some y) :
    ∃ (k n : Int) (s : Txt), v0 = .int .i64 k ∧ v1 = .int .i64 n ∧ v2 = .string s.1 := by
  obtain ⟨xs, k, _, _, _, hxl, hf⟩ := DataW.trod_struct Tryz.underlying40 hf
  match xs, hxl with
  | [y0, y1, y2], _ =>
    have g0 := hf 0 _ rfl
    have g1 := hf 1 _ rfl
    have g2 := hf 2 _ rfl
    simp [cellsInt, cellsI64, cellsStr] at g0 g1 g2
    obtain ⟨k0, q0, _⟩ := DataW.trod_int Tryz.underlying3 g0
    obtain ⟨k1, q1, _⟩ := DataW.trod_int Tryz.underlying2 g1
    obtain ⟨s, q2, _, hs⟩ := DataW.trod_string Tryz.underlying9 g2
    simp only [List.cons.injEq, and_true] at q0 q1 q2
    exact ⟨k0, k1, ⟨s, hs⟩, q0, q1, q2⟩

/-- A change, as it is read. -/
theorem open_change {r : Reach} {b0 : Nat} {v : Value} {d : DataW H} {p : List MemPlace} (hv : Value.okWide Tryz.prog W r b0 42 v) (h : DataW.Trod enc Tryz.prog W bs sp hd 42 v d p) :
    ∃ c : Ch, v = c.v := by
  obtain ⟨cs, rfl, hsz⟩ := okWide_struct Tryz.underlying42 hv
  obtain ⟨c0, c1, c2, c3, c4, c5, c6, rfl⟩ : ∃ c0 c1 c2 c3 c4 c5 c6, cs = #[c0, c1, c2, c3, c4, c5, c6] := by
    rw [cellsCh] at hsz
    obtain ⟨l⟩ := cs
    match l, hsz with
    | [c0, c1, c2, c3, c4, c5, c6], _ => exact ⟨c0, c1, c2, c3, c4, c5, c6, rfl⟩
  obtain ⟨fuel, hf⟩ := h
  obtain ⟨xs, n, _, hx, hl, hlen, hfs⟩ := DataW.trod_struct Tryz.underlying42 hf
  have h0 : DataW.trod enc Tryz.prog W bs sp hd n 3 (List.take (Tryz.prog.cellsOf 3) (List.drop 0 (Value.agg #[c0, c1, c2, c3, c4, c5, c6]).cells.toList)) = xs[0]? := hfs 0 _ rfl
  have h1 : DataW.trod enc Tryz.prog W bs sp hd n 9 (List.take (Tryz.prog.cellsOf 9) (List.drop 1 (Value.agg #[c0, c1, c2, c3, c4, c5, c6]).cells.toList)) = xs[1]? := hfs 1 _ rfl
  have h2 : DataW.trod enc Tryz.prog W bs sp hd n 9 (List.take (Tryz.prog.cellsOf 9) (List.drop 2 (Value.agg #[c0, c1, c2, c3, c4, c5, c6]).cells.toList)) = xs[2]? := hfs 2 _ rfl
  have h3 : DataW.trod enc Tryz.prog W bs sp hd n 9 (List.take (Tryz.prog.cellsOf 9) (List.drop 3 (Value.agg #[c0, c1, c2, c3, c4, c5, c6]).cells.toList)) = xs[3]? := hfs 3 _ rfl
  have h4 : DataW.trod enc Tryz.prog W bs sp hd n 40 (List.take (Tryz.prog.cellsOf 40) (List.drop 4 (Value.agg #[c0, c1, c2, c3, c4, c5, c6]).cells.toList)) = xs[4]? := hfs 4 _ rfl
  obtain ⟨x0, x1, x2, x3, x4, hx0, hx1, hx2, hx3, hx4⟩ : ∃ x0 x1 x2 x3 x4, xs[0]? = some x0 ∧ xs[1]? = some x1 ∧ xs[2]? = some x2 ∧ xs[3]? = some x3 ∧ xs[4]? = some x4 := by
    match xs, hlen with
    | x0 :: x1 :: x2 :: x3 :: x4 :: _, _ => exact ⟨x0, x1, x2, x3, x4, rfl, rfl, rfl, rfl, rfl⟩
  rw [cellsInt, hx0] at h0
  rw [cellsStr, hx1] at h1
  rw [cellsStr, hx2] at h2
  rw [cellsStr, hx3] at h3
  rw [cellsVl, hx4] at h4
  rw [show List.take 1 (List.drop 0 (Value.agg #[c0, c1, c2, c3, c4, c5, c6]).cells.toList) = [c0] by simp [Value.cells]] at h0
  rw [show List.take 1 (List.drop 1 (Value.agg #[c0, c1, c2, c3, c4, c5, c6]).cells.toList) = [c1] by simp [Value.cells]] at h1
  rw [show List.take 1 (List.drop 2 (Value.agg #[c0, c1, c2, c3, c4, c5, c6]).cells.toList) = [c2] by simp [Value.cells]] at h2
  rw [show List.take 1 (List.drop 3 (Value.agg #[c0, c1, c2, c3, c4, c5, c6]).cells.toList) = [c3] by simp [Value.cells]] at h3
  rw [show List.take 3 (List.drop 4 (Value.agg #[c0, c1, c2, c3, c4, c5, c6]).cells.toList) = [c4, c5, c6] by simp [Value.cells]] at h4
  obtain ⟨k, q0, _⟩ := DataW.trod_int Tryz.underlying3 h0
  obtain ⟨s1, q1, _, hs1⟩ := DataW.trod_string Tryz.underlying9 h1
  obtain ⟨s2, q2, _, hs2⟩ := DataW.trod_string Tryz.underlying9 h2
  obtain ⟨s3, q3, _, hs3⟩ := DataW.trod_string Tryz.underlying9 h3
  obtain ⟨dk, dn, ds, q4, q5, q6⟩ := open_val h4
  simp only [List.cons.injEq, and_true] at q0 q1 q2 q3
  exact ⟨⟨k, ⟨s1, hs1⟩, ⟨s2, hs2⟩, ⟨s3, hs3⟩, dk, dn, ds⟩, by rw [q0, q1, q2, q3, q4, q5, q6]⟩

theorem chn_map (F : Nat → Ch) (n j : Nat) (hj : j < n) : chn ((List.range n).map F) j = F j := by simp [chn, hj]
/-- A row of changes, as it is read. -/
theorem open_changes {r : Reach} {b0 : Nat} {v : Value} {d : DataW H} {p : List MemPlace} (hv : Value.okWide Tryz.prog W r b0 25 v) (h : DataW.Trod enc Tryz.prog W bs sp hd 25 v d p) :
    ∃ a c ls, v = .slice a ls.length c ∧ ls.length ≤ maxLen ∧ Chs W.heap.size W a ls := by
  obtain ⟨a0, l0, c0, rfl⟩ := okWide_slice Tryz.underlying25 hv
  obtain ⟨fuel, hf0⟩ := h
  have hf : DataW.trod enc Tryz.prog W bs sp hd fuel 25 [.slice a0 l0 c0] = some (d, p) := hf0
  rcases Deep.open_slice Tryz.underlying25 hf with ⟨hcs, _⟩ | ⟨ad, len, cap, m, n, D, Pl, hcs, _, hl, hcap, hm, _, hx⟩
  · simp only [List.cons.injEq, and_true] at hcs
    rw [hcs]
    exact ⟨none, 0, [], rfl, Nat.zero_le _, .inl rfl⟩
  · simp only [List.cons.injEq, and_true] at hcs
    rw [hcs]
    have hlm : len ≤ m := by rw [hm]; split <;> omega
    have each : ∀ i, i < len → ∃ x : Ch, W.cell? (ad.add (i * 7)) = some (.int .i64 x.k) ∧ W.cell? (ad.add (i * 7 + 1)) = some (.string x.t.1) ∧ W.cell? (ad.add (i * 7 + 2)) = some (.string x.f.1) ∧ W.cell? (ad.add (i * 7 + 3)) = some (.string x.o.1) ∧ W.cell? (ad.add (i * 7 + 4)) = some (.int .i64 x.dk) ∧ W.cell? (ad.add (i * 7 + 5)) = some (.int .i64 x.dn) ∧ W.cell? (ad.add (i * 7 + 6)) = some (.string x.ds.1) := by
      intro i hi
      obtain ⟨cs', h1, h2⟩ := hx i (by omega)
      rw [cellsCh] at h1
      obtain ⟨_, hlen, hcell⟩ := World.cells?_some h1
      obtain ⟨xs, k, _, _, _, hxl, hf⟩ := DataW.trod_struct Tryz.underlying42 h2
      match xs, hxl, cs', hlen with
      | [y0, y1, y2, y3, y4], _, [v0, v1, v2, v3, v4, v5, v6], _ =>
        have g0 := hf 0 _ rfl
        have g1 := hf 1 _ rfl
        have g2 := hf 2 _ rfl
        have g3 := hf 3 _ rfl
        have g4 := hf 4 _ rfl
        simp [cellsInt, cellsStr, cellsVl] at g0 g1 g2 g3 g4
        have e0 := hcell 0 (by omega)
        have e1 := hcell 1 (by omega)
        have e2 := hcell 2 (by omega)
        have e3 := hcell 3 (by omega)
        have e4 := hcell 4 (by omega)
        have e5 := hcell 5 (by omega)
        have e6 := hcell 6 (by omega)
        rw [Deep.add_add] at e0 e1 e2 e3 e4 e5 e6
        obtain ⟨k0, q0, _⟩ := DataW.trod_int Tryz.underlying3 g0
        obtain ⟨s1, q1, _, hs1⟩ := DataW.trod_string Tryz.underlying9 g1
        obtain ⟨s2, q2, _, hs2⟩ := DataW.trod_string Tryz.underlying9 g2
        obtain ⟨s3, q3, _, hs3⟩ := DataW.trod_string Tryz.underlying9 g3
        obtain ⟨dk, dn, ds, q4, q5, q6⟩ := open_val g4
        simp only [List.cons.injEq, and_true] at q0 q1 q2 q3
        subst q0 q1 q2 q3 q4 q5 q6
        exact ⟨⟨k0, ⟨s1, hs1⟩, ⟨s2, hs2⟩, ⟨s3, hs3⟩, dk, dn, ds⟩, by simpa using e0, by simpa using e1, by simpa using e2, by simpa using e3, by simpa using e4, by simpa using e5, by simpa using e6⟩
    obtain ⟨F, hF⟩ := Deep.choose_lt each
    refine ⟨some ad, cap, (List.range len).map F, by simp, by simp; omega, ?_⟩
    cases len with
    | zero => exact .inl rfl
    | succ l =>
      obtain ⟨b, off, spot⟩ := ad
      have hspot : spot = none := by simpa [Addr.add] using World.cell?_spot (hF 0 (by omega)).1
      subst hspot
      refine .inr ⟨b, off, rfl, ?_, fun j hj i u hu => ?_⟩
      · have := (hF 0 (by omega)).1
        rw [add_plain] at this
        exact cell_lt this
      · have hj' : j < l + 1 := by simpa using hj
        obtain ⟨h0, h1, h2, h3, h4, h5, h6⟩ := hF j hj'
        rw [add_plain] at h0 h1 h2 h3 h4 h5 h6
        rw [← Nat.add_assoc] at h1 h2 h3 h4 h5 h6
        rw [chn_map F _ j hj'] at hu
        match i, hu with
        | 0, hu => cases hu; exact h0
        | 1, hu => cases hu; exact h1
        | 2, hu => cases hu; exact h2
        | 3, hu => cases hu; exact h3
        | 4, hu => cases hu; exact h4
        | 5, hu => cases hu; exact h5
        | 6, hu => cases hu; exact h6
        | i + 7, hu => simp at hu

end
end Go.Proofs.YtcjpaldijngnpaaGreatDoor
