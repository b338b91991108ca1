/-
  Conditions and patterns that came in, as they are read: trees in memory, each number of 64 bits, and how many nodes they have at the most.
-/
import Derived.Test.YtfofpenajkaalaaDoorKnown8
import Derived.Test.YtfofpenajkaalaaDoorRows
import Derived.Lib.SmallJoins
import Derived.Deep.SlicePairs
import Derived.ProofKit
import Derived.OpenShut
namespace Go.Proofs.YtfofpenajkaalaaDoor
open Go.ChangeShapes Go.WideShapes Go.ChangeAt Go.RowKit Go.WideMaps Go.WideElems Go.Shelf

theorem cellsStr : Tryd.prog.cellsOf 9 = 1 := by kernel_rfl
theorem cellsInt : Tryd.prog.cellsOf 3 = 1 := by kernel_rfl
theorem cellsI64 : Tryd.prog.cellsOf 2 = 1 := by kernel_rfl
theorem cellsBool : Tryd.prog.cellsOf 4 = 1 := by kernel_rfl
theorem cellsVal : Tryd.prog.cellsOf 23 = 3 := by kernel_rfl
theorem cellsKids : Tryd.prog.cellsOf 24 = 1 := by kernel_rfl
theorem cellsExpr : Tryd.prog.cellsOf 26 = 7 := by kernel_rfl
theorem cellsEls : Tryd.prog.cellsOf 27 = 1 := by kernel_rfl
theorem cellsPat : Tryd.prog.cellsOf 29 = 4 := by kernel_rfl
theorem cellsStrs : Tryd.prog.cellsOf 40 = 1 := by kernel_rfl
theorem cellsElem : Tryd.prog.cellsOf 42 = 11 := by kernel_rfl

instance : Inhabited Dat := ⟨⟨0, 0, 0, default, default, default⟩⟩
instance : Inhabited Tree := ⟨.mk default []⟩
instance : Inhabited Em := ⟨⟨default, [], false, false, default⟩⟩
instance : Inhabited Pl := ⟨⟨none, 0, none, 0⟩⟩

theorem bulk_one {H : Type} (d : DataW H) : 1 ≤ Rows.uptoBulk d := by
  cases d with
  | lit l => cases l <;> simp [Rows.uptoBulk]
  | nil => simp [Rows.uptoBulk]
  | ptr d => simp [Rows.uptoBulk]
  | slice elems spare => simp [Rows.uptoBulk]
  | agg parts => simp [Rows.uptoBulk]
  | iface t d => simp [Rows.uptoBulk]
  | map entries => simp [Rows.uptoBulk]
  | held h => simp [Rows.uptoBulk]
theorem bulk_len {H : Type} (l : List (DataW H)) : l.length ≤ Rows.uptoBulkAll l := by
  induction l with
  | nil => simp [Rows.uptoBulkAll]
  | cons x r ih => have := bulk_one x; simp only [Rows.uptoBulkAll, List.length_cons]; omega
theorem bulk_at {H : Type} {l : List (DataW H)} {i : Nat} {d : DataW H} (h : l[i]? = some d) : Rows.uptoBulk d ≤ Rows.uptoBulkAll l := by
  induction l generalizing i with
  | nil => simp at h
  | cons x r ih =>
    simp only [Rows.uptoBulkAll]
    cases i with
    | zero => simp at h; subst h; omega
    | succ i => have := ih (i := i) (by simpa using h); omega
theorem cnt_bulk {H : Type} (n : Nat) : ∀ (ks : List Tree) (ds : List (DataW H)), (∀ (i : Nat) t, ks[i]? = some t → ∃ d, ds[i]? = some d ∧ cntT n t ≤ Rows.uptoBulk d) → cntL n ks ≤ Rows.uptoBulkAll ds
  | [], _, _ => by simp [cntL]
  | t :: ts, ds, h => by
    obtain ⟨d, hd, hc⟩ := h 0 t rfl
    cases ds with
    | nil => simp at hd
    | cons x r =>
      simp at hd; subst hd
      have := cnt_bulk n ts r fun i u hu => by simpa using h (i + 1) u (by simpa using hu)
      simp only [cntL, Rows.uptoBulkAll]
      omega

section
variable {H : Type} {enc : TypeId × Value → H} {W : World} {bs : Nat} {sp : Nat → Bool} {hd : Bool}

set_option maxRecDepth 100000

/-- Kids that are read at this fuel. -/
def KidsAt (enc : TypeId × Value → H) (W : World) (bs : Nat) (sp : Nat → Bool) (hd : Bool) (fuel : Nat) : Prop :=
  ∀ (v : Value) (y : DataW H × List MemPlace), DataW.trod enc Tryd.prog W bs sp hd fuel 24 [v] = some y → Rows.uptoBulk y.1 ≤ 1048576 →
    ∃ a c ks, v = .slice a ks.length c ∧ ks.length ≤ c ∧ Lies W.heap.size W a ks ∧ (∀ t ∈ ks, Bnd t) ∧ ∀ n, cntL n ks ≤ Rows.uptoBulk y.1

theorem open_node {n : Nat} (hK : ∀ m, m ≤ n → KidsAt enc W bs sp hd m) {cs : List Value} {y : DataW H × List MemPlace}
    (hf : DataW.trod enc Tryd.prog W bs sp hd n 26 cs = some y) (hy : Rows.uptoBulk y.1 ≤ 1048576) :
    ∃ (d : Dat) (a : Option Addr) (ks : List Tree) (c : Nat), cs = (d.cs a ks.length c).toList ∧ ks.length ≤ c ∧ Lies W.heap.size W a ks ∧ Bnd (.mk d ks) ∧ ∀ m, cntT m (.mk d ks) ≤ Rows.uptoBulk y.1 := by
  obtain ⟨xs, k, hn, hx, hl, hxl, hfs⟩ := DataW.trod_struct Tryd.underlying26 hf
  rw [cellsExpr] at hl
  match xs, hxl, cs, hl with
  | [y0, y1, y2, y3, y4], _, [v0, v1, v2, v3, v4, v5, v6], _ =>
    have g0 := hfs 0 _ rfl
    have g1 := hfs 1 _ rfl
    have g2 := hfs 2 _ rfl
    have g3 := hfs 3 _ rfl
    have g4 := hfs 4 _ rfl
    simp [cellsInt, cellsVal, cellsStr, cellsKids] at g0 g1 g2 g3 g4
    obtain ⟨k0, q0, e0, _⟩ := DataW.trod_int Tryd.underlying3 g0
    obtain ⟨s2, q2, e2, z2⟩ := DataW.trod_string Tryd.underlying9 g2
    obtain ⟨s3, q3, e3, z3⟩ := DataW.trod_string Tryd.underlying9 g3
    obtain ⟨xs', k', _, _, _, hxl', hfs'⟩ := DataW.trod_struct Tryd.underlying23 g1
    have hb : Rows.uptoBulk y.1 = 1 + (Rows.uptoBulk y0.1 + (Rows.uptoBulk y1.1 + (Rows.uptoBulk y2.1 + (Rows.uptoBulk y3.1 + Rows.uptoBulk y4.1)))) := by
      rw [hx]; simp only [List.map_cons, List.map_nil, Rows.uptoBulk, Rows.uptoBulkAll]; omega
    match xs', hxl' with
    | [w0, w1, w2], _ =>
      have u0 := hfs' 0 _ rfl
      have u1 := hfs' 1 _ rfl
      have u2 := hfs' 2 _ rfl
      simp [cellsInt, cellsI64, cellsStr] at u0 u1 u2
      obtain ⟨m0, r0, _, _⟩ := DataW.trod_int Tryd.underlying3 u0
      obtain ⟨m1, r1, _, hwf⟩ := DataW.trod_int Tryd.underlying2 u1
      obtain ⟨s, r2, _, z⟩ := DataW.trod_string Tryd.underlying9 u2
      simp only [List.cons.injEq, and_true] at q0 q2 q3 r0 r1 r2
      obtain ⟨a, c, ks, e, hc, h1, h2, h3⟩ := hK k (by omega) v6 y4 g4 (by omega)
      subst q0 q2 q3 r0 r1 r2 e
      have hwf' : -9223372036854775808 ≤ m1 ∧ m1 ≤ 9223372036854775807 := by
        simpa [Lit.wf, IntKind.min, IntKind.max, IntKind.bits, IntKind.signed] using hwf
      refine ⟨⟨k0, m0, m1, ⟨s, z⟩, ⟨s2, z2⟩, ⟨s3, z3⟩⟩, a, ks, c, rfl, hc, h1, .mk _ _ hwf'.1 hwf'.2 fun j t ht => h2 t (List.mem_of_getElem? ht), fun m => ?_⟩
      rw [cntT]
      split
      · exact Nat.zero_le _
      · have := h3 (m - 1); omega

theorem open_kids (fuel : Nat) : KidsAt enc W bs sp hd fuel := by
  induction fuel using Nat.strongRecOn with
  | ind fuel ih =>
    intro v y hf hy
    rcases DataW.trod_slice Tryd.underlying24 hf with ⟨hcs, _⟩ | ⟨ad, len, cap, elems, rest, n, hn, hcs, hx, _, hl, hm, hlen, hel, _, _⟩
    · simp only [List.cons.injEq, and_true] at hcs
      subst hcs
      exact ⟨none, 0, [], rfl, Nat.zero_le _, .nil _, by simp, fun n => by simp [cntL]⟩
    · simp only [List.cons.injEq, and_true] at hcs
      subst hcs
      have hb : Rows.uptoBulk y.1 = Rows.uptoBulkAll (elems.map (·.1)) + Rows.uptoBulkAll (rest.map (·.1)) + 1 := by rw [hx]; rfl
      have hlb := bulk_len (elems.map (·.1))
      rw [List.length_map, hlen] at hlb
      have each : ∀ i, i < len → ∃ x : Tree × Option Addr × Nat, (∀ j u, (x.1.dat.cs x.2.1 x.1.kids.length x.2.2)[j]? = some u → W.cell? (ad.add (i * 7 + j)) = some u) ∧ Lies W.heap.size W x.2.1 x.1.kids ∧ Bnd x.1 ∧ ∃ z, (elems.map (·.1))[i]? = some z ∧ ∀ n, cntT n x.1 ≤ Rows.uptoBulk z := by
        intro i hi
        have key := hel i hi
        rw [List.getElem?_eq_getElem (by omega), cellsExpr] at key
        obtain ⟨cs', h1, h2⟩ := Option.bind_eq_some_iff.1 key
        have hz : (elems.map (·.1))[i]? = some elems[i].1 := by simp [List.getElem?_eq_getElem (show i < elems.length by omega)]
        obtain ⟨d, a, ks, c, e, hc, hl1, hb1, hc1⟩ := open_node (n := n) (fun m hm' => ih m (by omega)) h2 (by have := bulk_at hz; omega)
        obtain ⟨_, _, hcell⟩ := World.cells?_some h1
        subst e
        refine ⟨⟨.mk d ks, a, c⟩, fun j u hu => ?_, hl1, hb1, _, hz, hc1⟩
        have hj : j < 7 := by
          have := (Array.getElem?_eq_some_iff.1 hu).1
          simpa using this
        have := hcell j hj
        rw [Deep.add_add] at this
        rw [this]
        simpa using hu
      obtain ⟨F, hF⟩ := Deep.choose_lt each
      have hat : ∀ (j : Nat) t, ((List.range len).map fun i => (F i).1)[j]? = some t → j < len ∧ t = (F j).1 := by
        intro j t ht
        rw [List.getElem?_map] at ht
        obtain ⟨i, hi, rfl⟩ := Option.map_eq_some_iff.1 ht
        obtain ⟨hj, rfl⟩ := List.getElem?_eq_some_iff.1 hi
        simp at hj ⊢
        exact hj
      refine ⟨some ad, cap, (List.range len).map fun i => (F i).1, by simp, by simpa using hl, ?_, fun t ht => ?_, fun m => ?_⟩
      · cases len with
        | zero => exact .nil _
        | succ l =>
          obtain ⟨b, off, spot⟩ := ad
          have hspot : spot = none := by simpa [Addr.add] using World.cell?_spot ((hF 0 (by omega)).1 0 _ rfl)
          subst hspot
          refine .row b off _ (fun j => (F j).2) (by simp; omega) ?_ (fun j t ht i u hu => ?_) fun j t ht => ?_
          · have := (hF 0 (by omega)).1 0 _ rfl
            rw [add_plain] at this
            exact block_lt_of_cell this
          · obtain ⟨hj, rfl⟩ := hat j t ht
            have := (hF j hj).1 i u hu
            rw [add_plain] at this
            rw [show off + j * 7 + i = off + (j * 7 + i) by omega]
            exact this
          · obtain ⟨hj, rfl⟩ := hat j t ht
            exact (hF j hj).2.1
      · obtain ⟨j, hj⟩ := List.mem_iff_getElem?.1 ht
        obtain ⟨hj', rfl⟩ := hat j t hj
        exact (hF j hj').2.2.1
      · have := cnt_bulk m ((List.range len).map fun i => (F i).1) (elems.map (·.1)) fun i t ht => by
          obtain ⟨hj, rfl⟩ := hat i t ht
          obtain ⟨z, hz, hc⟩ := (hF i hj).2.2.2
          exact ⟨z, hz, hc m⟩
        omega

/-- A condition, as it is read. -/
theorem open_expr {r : Reach} {b0 : Nat} {v : Value} {d : DataW H} {p : List MemPlace} (hv : Value.okWide Tryd.prog W r b0 26 v) (h : DataW.Trod enc Tryd.prog W bs sp hd 26 v d p) (hb : Rows.uptoBulk d ≤ 1048576) :
    ∃ (x : Dat) (a : Option Addr) (ks : List Tree) (c : Nat), v = x.v a ks.length c ∧ Lies W.heap.size W a ks ∧ Bnd (.mk x ks) ∧ ∀ m, cntT m (.mk x ks) ≤ 1048576 := by
  obtain ⟨cs, rfl, hsz⟩ := okWide_struct Tryd.underlying26 hv
  obtain ⟨fuel, hf⟩ := h
  obtain ⟨x, a, ks, c, e, _, h1, h2, h3⟩ := open_node (fun m _ => open_kids m) hf hb
  refine ⟨x, a, ks, c, ?_, h1, h2, fun m => Nat.le_trans (h3 m) hb⟩
  have : cs = x.cs a ks.length c := Array.ext' e
  rw [this]

/-- Texts, as they are read. -/
theorem open_texts {fuel : Nat} {v : Value} {y : DataW H × List MemPlace} (hf : DataW.trod enc Tryd.prog W bs sp hd fuel 40 [v] = some y) (hy : Rows.uptoBulk y.1 ≤ 1048576) :
    ∃ a c ts, v = .slice a ts.length c ∧ ts.length ≤ c ∧ Txts W.heap.size W a ts := by
  rcases Deep.open_slice1 Tryd.underlying40 cellsStr hf with ⟨hcs, _⟩ | ⟨ad, len, cap, m, n, V, D, P, hcs, _, hl, hcap, hm, he, hx⟩
  · simp only [List.cons.injEq, and_true] at hcs
    subst hcs
    exact ⟨none, 0, [], rfl, Nat.zero_le _, by simp, .inl rfl⟩
  · simp only [List.cons.injEq, and_true] at hcs
    subst hcs
    have hlm : len ≤ m := by rw [hm]; split <;> omega
    have hlb : len + 1 ≤ Rows.uptoBulk y.1 := by
      rw [he]
      have := bulk_len ((List.range len).map D)
      simp only [Rows.uptoBulk]
      rw [List.length_map, List.length_range] at this
      omega
    have each : ∀ i, i < len → ∃ t : Txt, V i = .string t.1 := by
      intro i hi
      obtain ⟨s, e0, _, hs⟩ := DataW.trod_string Tryd.underlying9 (hx i (by omega)).2
      simp only [List.cons.injEq, and_true] at e0
      exact ⟨⟨s, hs⟩, e0⟩
    obtain ⟨F, hF⟩ := Deep.choose_lt each
    refine ⟨some ad, cap, (List.range len).map F, by simp, by simpa using hl, by simp; omega, ?_⟩
    cases len with
    | zero => exact .inl rfl
    | succ l =>
      obtain ⟨b, off, spot⟩ := ad
      have hspot : spot = none := by simpa [Addr.add] using World.cell?_spot (hx 0 (by omega)).1
      subst hspot
      refine .inr ⟨b, off, rfl, ?_, fun j t ht => ?_⟩
      · have := (hx 0 (by omega)).1
        rw [add_plain] at this
        exact block_lt_of_cell this
      · rw [List.getElem?_map] at ht
        obtain ⟨i, hi, rfl⟩ := Option.map_eq_some_iff.1 ht
        obtain ⟨hj, rfl⟩ := List.getElem?_eq_some_iff.1 hi
        simp at hj ⊢
        have := (hx j (by omega)).1
        rw [add_plain] at this
        rw [this, hF j hj]

/-- Elements, as they are read. -/
theorem open_elems {fuel : Nat} {v : Value} {y : DataW H × List MemPlace} (hf : DataW.trod enc Tryd.prog W bs sp hd fuel 27 [v] = some y) (hy : Rows.uptoBulk y.1 ≤ 1048576) :
    ∃ a c es, v = .slice a es.length c ∧ es.length ≤ c ∧ Ems W.heap.size W a es ∧ EmsK W.heap.size W a es ∧ ∀ e ∈ es, Bnd e.t ∧ ∀ m, cntT m e.t ≤ 1048576 := by
  rcases DataW.trod_slice Tryd.underlying27 hf with ⟨hcs, _⟩ | ⟨ad, len, cap, elems, rest, n, hn, hcs, hx, _, hl, hm, hlen, hel, _, _⟩
  · simp only [List.cons.injEq, and_true] at hcs
    subst hcs
    exact ⟨none, 0, [], rfl, Nat.zero_le _, ⟨by simp, .inl rfl⟩, .inl rfl, by simp⟩
  · simp only [List.cons.injEq, and_true] at hcs
    subst hcs
    have hb : Rows.uptoBulk y.1 = Rows.uptoBulkAll (elems.map (·.1)) + Rows.uptoBulkAll (rest.map (·.1)) + 1 := by rw [hx]; rfl
    have each : ∀ i, i < len → ∃ x : Em × Pl, (∀ j u, (x.1.cs x.2)[j]? = some u → W.cell? (ad.add (i * 11 + j)) = some u) ∧ EmIn W.heap.size W x.1 x.2 ∧ x.1.ts.length ≤ x.2.tc ∧ (Bnd x.1.t ∧ ∀ m, cntT m x.1.t ≤ 1048576) ∧ ∃ z, (elems.map (·.1))[i]? = some z ∧ 2 ≤ Rows.uptoBulk z := by
      intro i hi
      have key := hel i hi
      rw [List.getElem?_eq_getElem (by omega), cellsElem] at key
      obtain ⟨cs', h1, h2⟩ := Option.bind_eq_some_iff.1 key
      have hz : (elems.map (·.1))[i]? = some elems[i].1 := by simp [List.getElem?_eq_getElem (show i < elems.length by omega)]
      have hzb := bulk_at hz
      generalize elems[i] = yy at h2 hz hzb
      obtain ⟨xs, k, hk, hxx, hl', hxl, hfs⟩ := DataW.trod_struct Tryd.underlying42 h2
      rw [cellsElem] at hl'
      obtain ⟨_, _, hcell⟩ := World.cells?_some h1
      match xs, hxl, cs', hl' with
      | [y0, y1, y2, y3, y4], _, [v0, v1, v2, v3, v4, v5, v6, v7, v8, v9, v10], _ =>
        have g0 := hfs 0 _ rfl
        have g1 := hfs 1 _ rfl
        have g2 := hfs 2 _ rfl
        have g3 := hfs 3 _ rfl
        have g4 := hfs 4 _ rfl
        simp [cellsStr, cellsStrs, cellsBool, cellsExpr] at g0 g1 g2 g3 g4
        have hb' : Rows.uptoBulk yy.1 = 1 + (Rows.uptoBulk y0.1 + (Rows.uptoBulk y1.1 + (Rows.uptoBulk y2.1 + (Rows.uptoBulk y3.1 + Rows.uptoBulk y4.1)))) := by
          rw [hxx]; simp only [List.map_cons, List.map_nil, Rows.uptoBulk, Rows.uptoBulkAll]; omega
        have o0 := bulk_one y0.1
        obtain ⟨s0, q0, _, z0⟩ := DataW.trod_string Tryd.underlying9 g0
        obtain ⟨ta, tc, ts, q1, htc, hts⟩ := open_texts g1 (by omega)
        obtain ⟨p2, q2, _⟩ := DataW.trod_bool Tryd.underlying4 g2
        obtain ⟨p3, q3, _⟩ := DataW.trod_bool Tryd.underlying4 g3
        obtain ⟨d, a, ks, c, q4, _, hl1, hb1, hc1⟩ := open_node (fun m _ => open_kids m) g4 (by omega)
        simp only [List.cons.injEq, and_true] at q0 q2 q3
        simp only [List.cons.injEq, and_true] at q4
        obtain ⟨rfl, rfl, rfl, rfl, rfl, rfl, rfl⟩ := q4
        subst q0 q1 q2 q3
        refine ⟨⟨⟨⟨s0, z0⟩, ts, p2, p3, .mk d ks⟩, ⟨ta, tc, a, c⟩⟩, fun j u hu => ?_, ⟨hts, hl1⟩, htc, ⟨hb1, fun m => Nat.le_trans (hc1 m) (by omega)⟩, _, hz, by omega⟩
        have hj : j < 11 := by
          have := (Array.getElem?_eq_some_iff.1 hu).1
          simpa using this
        have := hcell j hj
        rw [Deep.add_add] at this
        rw [this]
        simpa using hu
    obtain ⟨F, hF⟩ := Deep.choose_lt each
    have hat : ∀ (j : Nat) t, ((List.range len).map fun i => (F i).1)[j]? = some t → j < len ∧ t = (F j).1 := by
      intro j t ht
      rw [List.getElem?_map] at ht
      obtain ⟨i, hi, rfl⟩ := Option.map_eq_some_iff.1 ht
      obtain ⟨hj, rfl⟩ := List.getElem?_eq_some_iff.1 hi
      simp at hj ⊢
      exact hj
    have two : ∀ (l : List (DataW H)), (∀ (i : Nat) z, l[i]? = some z → 2 ≤ Rows.uptoBulk z) → 2 * l.length ≤ Rows.uptoBulkAll l := by
      intro l
      induction l with
      | nil => intro _; simp
      | cons x r ih =>
        intro h
        have h0 := h 0 x rfl
        have h1 := ih fun i z hz => h (i + 1) z (by simpa using hz)
        simp only [Rows.uptoBulkAll, List.length_cons]
        omega
    have hlb := two (elems.map (·.1)) fun i z hz => by
      have hi : i < len := by have := (List.getElem?_eq_some_iff.1 hz).1; rw [List.length_map] at this; omega
      obtain ⟨z', hz', h2⟩ := (hF i hi).2.2.2.2
      rw [hz] at hz'; cases hz'; exact h2
    rw [List.length_map, hlen] at hlb
    refine ⟨some ad, cap, (List.range len).map fun i => (F i).1, by simp, by simpa using hl, ⟨by simp; omega, ?_⟩, ?_, fun e he => ?_⟩
    · cases len with
      | zero => exact .inl rfl
      | succ l =>
        obtain ⟨b, off, spot⟩ := ad
        have hspot : spot = none := by simpa [Addr.add] using World.cell?_spot ((hF 0 (by omega)).1 0 _ rfl)
        subst hspot
        refine .inr ⟨b, off, fun j => (F j).2, rfl, ?_, fun j e he => ?_⟩
        · have := (hF 0 (by omega)).1 0 _ rfl
          rw [add_plain] at this
          exact block_lt_of_cell this
        · obtain ⟨hj, rfl⟩ := hat j e he
          refine ⟨fun i u hu => ?_, (hF j hj).2.1⟩
          have := (hF j hj).1 i u hu
          rw [add_plain] at this
          rw [show off + j * 11 + i = off + (j * 11 + i) by omega]
          exact this
    · cases len with
      | zero => exact .inl rfl
      | succ l =>
        obtain ⟨b, off, spot⟩ := ad
        have hspot : spot = none := by simpa [Addr.add] using World.cell?_spot ((hF 0 (by omega)).1 0 _ rfl)
        subst hspot
        refine .inr ⟨b, off, fun j => (F j).2, rfl, ?_, fun j e he => ?_⟩
        · have := (hF 0 (by omega)).1 0 _ rfl
          rw [add_plain] at this
          exact block_lt_of_cell this
        · obtain ⟨hj, rfl⟩ := hat j e he
          refine ⟨fun i u hu => ?_, (hF j hj).2.1, (hF j hj).2.2.1⟩
          have := (hF j hj).1 i u hu
          rw [add_plain] at this
          rw [show off + j * 11 + i = off + (j * 11 + i) by omega]
          exact this
    · obtain ⟨j, hj⟩ := List.mem_iff_getElem?.1 he
      obtain ⟨hj', rfl⟩ := hat j e hj
      exact (hF j hj').2.2.2.1

/-- A pattern, as it is read. -/
theorem open_pattern {r : Reach} {b0 : Nat} {v : Value} {d : DataW H} {p : List MemPlace} (hv : Value.okWide Tryd.prog W r b0 29 v) (h : DataW.Trod enc Tryd.prog W bs sp hd 29 v d p) (hb : Rows.uptoBulk d ≤ 1048576) :
    ∃ (q : Pt) (a : Option Addr) (cap : Nat), v = q.v a cap ∧ q.es.length ≤ cap ∧ Ems W.heap.size W a q.es ∧ EmsK W.heap.size W a q.es ∧ ∀ e ∈ q.es, Bnd e.t ∧ ∀ m, cntT m e.t ≤ 1048576 := by
  obtain ⟨cs, rfl, hsz⟩ := okWide_struct Tryd.underlying29 hv
  obtain ⟨fuel, hf⟩ := h
  obtain ⟨xs, k, hk, hxx, hl, hxl, hfs⟩ := DataW.trod_struct Tryd.underlying29 hf
  rw [cellsPat] at hsz
  obtain ⟨l⟩ := cs
  match xs, hxl, l, hsz with
  | [y0, y1, y2, y3], _, [v0, v1, v2, v3], _ =>
    have g0 := hfs 0 _ rfl
    have g1 := hfs 1 _ rfl
    have g2 := hfs 2 _ rfl
    have g3 := hfs 3 _ rfl
    simp [cellsStr, cellsEls, cellsBool, cellsInt, Value.cells] at g0 g1 g2 g3
    have hb' : Rows.uptoBulk d = 1 + (Rows.uptoBulk y0.1 + (Rows.uptoBulk y1.1 + (Rows.uptoBulk y2.1 + Rows.uptoBulk y3.1))) := by
      have : d = .agg ([y0, y1, y2, y3].map (·.1)) := (Prod.mk.injEq .. ▸ hxx).1
      rw [this]; simp only [List.map_cons, List.map_nil, Rows.uptoBulk, Rows.uptoBulkAll]; omega
    obtain ⟨a, c, es, q0, h1, h2, h3, h4⟩ := open_elems g0 (by omega)
    obtain ⟨k1, q1, _⟩ := DataW.trod_int Tryd.underlying3 g1
    obtain ⟨s, q2, _, hs⟩ := DataW.trod_string Tryd.underlying9 g2
    obtain ⟨b, q3, _⟩ := DataW.trod_bool Tryd.underlying4 g3
    simp only [List.cons.injEq, and_true] at q1 q2 q3
    subst q0 q1 q2 q3
    exact ⟨⟨es, k1, ⟨s, hs⟩, b⟩, a, c, rfl, h1, h2, h3, h4⟩

/-- A value, as it is read. -/
theorem open_val {r : Reach} {b0 : Nat} {v : Value} {d : DataW H} {p : List MemPlace} (hv : Value.okWide Tryd.prog W r b0 23 v) (h : DataW.Trod enc Tryd.prog W bs sp hd 23 v d p) :
    ∃ (k n : Int) (s : Txt), v = .agg #[.int .i64 k, .int .i64 n, .string s.1] ∧ -9223372036854775808 ≤ n ∧ n ≤ 9223372036854775807 := by
  obtain ⟨cs, rfl, hsz⟩ := okWide_struct Tryd.underlying23 hv
  obtain ⟨fuel, hf⟩ := h
  obtain ⟨xs, k, hk, hxx, hl, hxl, hfs⟩ := DataW.trod_struct Tryd.underlying23 hf
  rw [cellsVal] at hsz
  obtain ⟨l⟩ := cs
  match xs, hxl, l, hsz with
  | [y0, y1, y2], _, [v0, v1, v2], _ =>
    have g0 := hfs 0 _ rfl
    have g1 := hfs 1 _ rfl
    have g2 := hfs 2 _ rfl
    simp [cellsStr, cellsI64, cellsInt, Value.cells] at g0 g1 g2
    obtain ⟨k0, q0, _⟩ := DataW.trod_int Tryd.underlying3 g0
    obtain ⟨k1, q1, _, hwf⟩ := DataW.trod_int Tryd.underlying2 g1
    obtain ⟨s, q2, _, hs⟩ := DataW.trod_string Tryd.underlying9 g2
    simp only [List.cons.injEq, and_true] at q0 q1 q2
    subst q0 q1 q2
    have hwf' : -9223372036854775808 ≤ k1 ∧ k1 ≤ 9223372036854775807 := by
      simpa [Lit.wf, IntKind.min, IntKind.max, IntKind.bits, IntKind.signed] using hwf
    exact ⟨k0, k1, ⟨s, hs⟩, rfl, hwf'.1, hwf'.2⟩

end
end Go.Proofs.YtfofpenajkaalaaDoor
