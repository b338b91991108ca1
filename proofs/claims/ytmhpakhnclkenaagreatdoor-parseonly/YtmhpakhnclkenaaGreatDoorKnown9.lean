/-
  What the head of package pasternlaw9 asks: its five texts, as they are parsed.
-/
import Derived.Test.YtmhpakhnclkenaaGreatDoorParZ
import Derived.Test.YtmhpakhnclkenaaGreatDoorAs
namespace Go.Proofs.YtmhpakhnclkenaaGreatDoor
open Go.RowKit Go.Shelf

attribute [local go_sem] Oper.semAt_some

/-- The variables that the parser reads. -/
structure V9 (W : World) : Prop where
  v : Vars W
  s : VarsS W
  p : PsV W
theorem V9.on {A W : World} (h : V9 A) (b : Below A.heap.size A W) : V9 W :=
  ⟨h.v.on b h.v.size, h.s.on b, h.p.kb (Kb.of (B := 4) b) (by decide)⟩

def kt1 : ByteArray := ⟨#[83, 69, 81, 40, 97, 58, 116, 124, 117, 43, 91, 40, 97, 46, 120, 32, 60, 32, 45, 51, 41, 93, 44, 32, 33, 110, 58, 116, 32, 44, 32, 98, 58, 117, 41, 32, 32, 87, 73, 84, 72, 73, 78, 32, 55, 32, 66, 89, 32, 105, 100, 32, 65, 78, 89]⟩
def kt2 : ByteArray := ⟨#[83, 69, 81, 40, 97, 58, 117, 124, 116, 41, 32, 87, 73, 84, 72, 73, 78, 32, 55]⟩
def kt3 : ByteArray := ⟨#[83, 69, 81, 40, 97, 58, 116, 41, 32, 87, 73, 84, 72, 73, 78, 32, 55, 32, 35]⟩
def kt4 : ByteArray := ⟨#[40, 78, 79, 84, 32, 97, 46, 98, 105, 103, 41]⟩
def kt5 : ByteArray := ⟨#[40, 78, 79, 84, 32, 40, 78, 79, 84, 32, 40, 78, 79, 84, 32, 40, 78, 79, 84, 32, 40, 78, 79, 84, 32, 97, 46, 120, 41, 41, 41, 41, 41]⟩
set_option maxRecDepth 100000 in
theorem kn1 : (patF (readP kt1)).2 = 0 ∧ (patF (readP kt1)).1.es.length = 3 ∧ (patF (readP kt1)).1.es[0]?.map Em.pl = some true ∧ (patF (readP kt1)).1.es[1]?.map Em.nt = some true ∧ (patF (readP kt1)).1.nm.1.data.toList = [105, 100] ∧ (patF (readP kt1)).1.any = true := by decide +kernel
set_option maxRecDepth 100000 in
theorem kn2 : (patF (readP kt2)).2 = 10 := by decide +kernel
set_option maxRecDepth 100000 in
theorem kn3 : (patF (readP kt3)).2 = 21 := by decide +kernel
set_option maxRecDepth 100000 in
theorem kn4 : (exprF (readP kt4)).2 = 0 ∧ (exprF (readP kt4)).1.dat.op = 12 := by decide +kernel
set_option maxRecDepth 100000 in
theorem kn5 : (exprF (readP kt5)).2 = 12 := by decide +kernel

set_option maxRecDepth 100000 in
set_option maxHeartbeats 8000000 in
theorem known7_c (W : World) (h9 : V9 W) : Calls Tryz.prog 7 #[] W fun r W' => r = .returned (.bool true) ∧ Below W.heap.size W W' := by
  obtain ⟨h1a, h1b, h1c, h1d, h1e, h1f⟩ := kn1
  have h2 := kn2
  have h3 := kn3
  obtain ⟨h4a, h4b⟩ := kn4
  have h5 := kn5
  have c1 := fun (U : World) (h : V9 U) => parseP_c kt1 (by decide) U h.v h.s h.p
  rw [h1a, errO_zero] at c1
  generalize (patF (readP kt1)).1 = q at c1 h1b h1c h1d h1e h1f
  have c2 := fun (U : World) (h : V9 U) => parseP_c kt2 (by decide) U h.v h.s h.p
  rw [h2, errO_ne (show (10 : Int) ≠ 0 by decide)] at c2
  have c3 := fun (U : World) (h : V9 U) => parseP_c kt3 (by decide) U h.v h.s h.p
  rw [h3, errO_ne (show (21 : Int) ≠ 0 by decide)] at c3
  have c4 := fun (U : World) (h : V9 U) => parseE_c kt4 (by decide) U h.v h.s h.p
  rw [h4a, errO_zero] at c4
  generalize (exprF (readP kt4)).1 = xt at c4 h4b
  have c5 := fun (U : World) (h : V9 U) => parseE_c kt5 (by decide) U h.v h.s h.p
  rw [h5, errO_ne (show (12 : Int) ≠ 0 by decide)] at c5
  simp only [kt1, kt2, kt3, kt4, kt5] at c1 c2 c3 c4 c5
  generalize (patF (readP ⟨#[83, 69, 81, 40, 97, 58, 117, 124, 116, 41, 32, 87, 73, 84, 72, 73, 78, 32, 55]⟩)).1 = Q2 at c2
  generalize (patF (readP ⟨#[83, 69, 81, 40, 97, 58, 116, 41, 32, 87, 73, 84, 72, 73, 78, 32, 55, 32, 35]⟩)).1 = Q3 at c3
  generalize hT5 : (exprF (readP _)).1 = T5 at c5
  clear hT5
  have C1 := hide (c1 W h9)
  have C2 := hide c2
  have C3 := hide c3
  have C4 := hide c4
  have C5 := hide c5
  have hb := hide (Below.refl W.heap.size W)
  obtain ⟨es, wi, nm, an⟩ := q
  obtain ⟨dd, ks⟩ := xt
  simp only at h1b h1c h1d h1e h1f h4b
  obtain ⟨x0, hx0⟩ : ∃ x, es[0]? = some x := ⟨_, List.getElem?_eq_getElem (by omega)⟩
  obtain ⟨x1, hx1⟩ : ∃ x, es[1]? = some x := ⟨_, List.getElem?_eq_getElem (by omega)⟩
  rw [hx0] at h1c
  rw [hx1] at h1d
  simp only [Option.map_some, Option.some.injEq] at h1c h1d
  replace h4b : dd.op = 12 := h4b
  subst h1f
  clear c1 c2 c3 c4 c5 h1a h2 h3 h4a h5
  replace h9 := hide h9
  replace h1b := hide h1b
  replace h1c := hide h1c
  replace h1d := hide h1d
  replace h1e := hide h1e
  replace h4b := hide h4b
  replace hx0 := hide hx0
  replace hx1 := hide hx1
  go_enter Tryz.func7, Tryz.ntmps7
  go_wp2_with fail
  refine (unhide C1).mono ?_
  rintro r W1 ⟨v, rfl, ⟨a1, n1, rfl, hm1, hc1⟩, b1⟩
  have V1 := (unhide h9).on b1
  obtain ⟨g, off, rfl, hg, e0, e1⟩ : ∃ g off, a1 = some ⟨g, off, none⟩ ∧ g < W1.heap.size ∧ W1.cell? ⟨g, off + 2, none⟩ = some (.bool true) ∧ W1.cell? ⟨g, off + 14, none⟩ = some (.bool true) := by
    rcases hm1 with h0 | ⟨b, off, f, e, -, hk, hc⟩
    · have := unhide h1b; rw [show es = [] from h0] at this; cases this
    · refine ⟨b, off, e, hk, ?_, ?_⟩
      · have := (hc 0 x0 (unhide hx0)).1 2 (.bool x0.pl) rfl
        rw [unhide h1c] at this; simpa using this
      · have := (hc 1 x1 (unhide hx1)).1 3 (.bool x1.nt) rfl
        rw [unhide h1d] at this; simpa using this
  clear hm1 hc1
  obtain ⟨X1, hX1⟩ : ∃ X1, X1 = W1.alloc (.cells #[.slice (some ⟨g, off, none⟩) es.length n1, .int .i64 wi, .string nm.1, .bool true] 36) := ⟨_, rfl⟩
  have d1 : Below W1.heap.size W1 X1 := by rw [hX1]; exact (Below.refl _ _).alloc (Nat.le_refl _) _
  have p1 : Box X1 W1.heap.size 36 #[.slice (some ⟨g, off, none⟩) es.length n1, .int .i64 wi, .string nm.1, .bool true] := by rw [hX1]; exact Box.new _ _ _
  have VX := V1.on d1
  have bb := b1.trans (d1.mono b1.size)
  have f0 := (d1.cell (p := ⟨g, off + 2, none⟩) hg).trans e0
  have f1 := (d1.cell (p := ⟨g, off + 14, none⟩) hg).trans e1
  have hgx : g < X1.heap.size := Nat.lt_of_lt_of_le hg d1.size
  have D2 := hide (unhide C2 X1 VX)
  have Hp := hide p1
  have Hb := hide bb
  have H0 := hide f0
  have H1 := hide f1
  have HV := hide VX
  obtain ⟨P1, hP1⟩ : ∃ P1, P1 = W1.heap.size := ⟨_, rfl⟩
  have hpl := p1.lt
  rw [← hP1] at Hp hpl
  clear C1 C2 h9 hb b1 V1 d1 p1 VX bb f0 f1 e0 e1 hg hx0 hx1 h1c h1d
  go_upto_region 2 with fail
  rw [← hX1, ← hP1]
  clear hX1 hP1
  go_wp2_with fail
  refine (unhide D2).mono ?_
  rintro r W2 ⟨v, rfl, ⟨a2, n2, rfl, -, -⟩, b2⟩
  obtain ⟨X2, hX2⟩ : ∃ X, X = W2.alloc (.cells (Pt.cs Q2 a2 n2) 36) := ⟨_, rfl⟩
  have d2 : Below W2.heap.size W2 X2 := by rw [hX2]; exact (Below.refl _ _).alloc (Nat.le_refl _) _
  have e2 : Below X1.heap.size X1 X2 := b2.trans (d2.mono b2.size)
  have hszp := e2.size
  replace HV := hide ((unhide HV).on e2)
  replace Hp := hide ((unhide Hp).on e2 hpl)
  replace Hb := hide ((unhide Hb).trans (e2.mono (unhide Hb).size))
  replace H0 := hide ((e2.cell (p := ⟨g, off + 2, none⟩) hgx).trans (unhide H0))
  replace H1 := hide ((e2.cell (p := ⟨g, off + 14, none⟩) hgx).trans (unhide H1))
  replace hgx : g < X2.heap.size := by omega
  replace hpl : P1 < X2.heap.size := by omega
  have D3 := hide (unhide C3 X2 (unhide HV))
  clear D2 d2 e2 b2 hszp C3
  go_upto_region 3 with fail
  rw [← hX2]
  clear hX2
  go_wp2_with fail
  refine (unhide D3).mono ?_
  rintro r W3 ⟨v, rfl, ⟨a3, n3, rfl, -, -⟩, b3⟩
  obtain ⟨X3, hX3⟩ : ∃ X, X = W3.alloc (.cells (Pt.cs Q3 a3 n3) 36) := ⟨_, rfl⟩
  have d3 : Below W3.heap.size W3 X3 := by rw [hX3]; exact (Below.refl _ _).alloc (Nat.le_refl _) _
  have e3 : Below X2.heap.size X2 X3 := b3.trans (d3.mono b3.size)
  have hszp := e3.size
  replace HV := hide ((unhide HV).on e3)
  replace Hp := hide ((unhide Hp).on e3 hpl)
  replace Hb := hide ((unhide Hb).trans (e3.mono (unhide Hb).size))
  replace H0 := hide ((e3.cell (p := ⟨g, off + 2, none⟩) hgx).trans (unhide H0))
  replace H1 := hide ((e3.cell (p := ⟨g, off + 14, none⟩) hgx).trans (unhide H1))
  replace hgx : g < X3.heap.size := by omega
  replace hpl : P1 < X3.heap.size := by omega
  have D4 := hide (unhide C4 X3 (unhide HV))
  clear D3 d3 e3 b3 hszp C4
  go_upto_region 4 with fail
  rw [← hX3]
  clear hX3
  go_wp2_with fail
  refine (unhide D4).mono ?_
  rintro r W4 ⟨v, rfl, ⟨a4, n4, rfl, -⟩, b4⟩
  obtain ⟨X4, hX4⟩ : ∃ X, X = W4.alloc (.cells #[.int .i64 dd.op, .int .i64 dd.k, .int .i64 dd.n, .string dd.s.1, .string dd.al.1, .string dd.fd.1, .slice a4 ks.length n4] 27) := ⟨_, rfl⟩
  have d4 : Below W4.heap.size W4 X4 := by rw [hX4]; exact (Below.refl _ _).alloc (Nat.le_refl _) _
  have e4 : Below X3.heap.size X3 X4 := b4.trans (d4.mono b4.size)
  have hszp := e4.size
  replace HV := hide ((unhide HV).on e4)
  replace Hp := hide ((unhide Hp).on e4 hpl)
  replace Hb := hide ((unhide Hb).trans (e4.mono (unhide Hb).size))
  replace H0 := hide ((e4.cell (p := ⟨g, off + 2, none⟩) hgx).trans (unhide H0))
  replace H1 := hide ((e4.cell (p := ⟨g, off + 14, none⟩) hgx).trans (unhide H1))
  obtain ⟨P4, hP4⟩ : ∃ P4, P4 = W4.heap.size := ⟨_, rfl⟩
  have x4 : Box X4 P4 27 #[.int .i64 dd.op, .int .i64 dd.k, .int .i64 dd.n, .string dd.s.1, .string dd.al.1, .string dd.fd.1, .slice a4 ks.length n4] := by rw [hX4, hP4]; exact Box.new _ _ _
  have Hx := hide x4
  have hxl := x4.lt

  clear x4
  replace hgx : g < X4.heap.size := by omega
  replace hpl : P1 < X4.heap.size := by omega
  have D5 := hide (unhide C5 X4 (unhide HV))
  clear D4 d4 e4 b4 hszp C5
  go_upto_region 5 with fail
  rw [← hX4, ← hP4]
  clear hX4 hP4
  go_wp2_with fail
  refine (unhide D5).mono ?_
  rintro r W5 ⟨v, rfl, ⟨a5, n5, rfl, -⟩, b5⟩
  obtain ⟨X5, hX5⟩ : ∃ X, X = W5.alloc (.cells (Dat.cs T5.dat a5 T5.kids.length n5) 27) := ⟨_, rfl⟩
  have d5 : Below W5.heap.size W5 X5 := by rw [hX5]; exact (Below.refl _ _).alloc (Nat.le_refl _) _
  have e5 : Below X4.heap.size X4 X5 := b5.trans (d5.mono b5.size)
  have hszp := e5.size
  replace HV := hide ((unhide HV).on e5)
  replace Hp := hide ((unhide Hp).on e5 hpl)
  replace Hb := hide ((unhide Hb).trans (e5.mono (unhide Hb).size))
  replace H0 := hide ((e5.cell (p := ⟨g, off + 2, none⟩) hgx).trans (unhide H0))
  replace H1 := hide ((e5.cell (p := ⟨g, off + 14, none⟩) hgx).trans (unhide H1))
  replace Hx := hide ((unhide Hx).on e5 hxl)
  replace hgx : g < X5.heap.size := by omega
  replace hpl : P1 < X5.heap.size := by omega
  clear hxl
  clear D5 d5 e5 b5 hszp
  go_upto_region 6 with fail
  rw [← hX5]
  clear hX5
  have hnm : nm.1 = ⟨#[105, 100]⟩ := by
    have := unhide h1e
    cases hq : nm.1 with
    | mk d => rw [hq] at this; cases d; simp only at this; subst this; rfl
  obtain ⟨t0, t1, t2, t3⟩ := (unhide Hp).four
  rw [unhide h1b] at t0
  rw [hnm] at t2
  have u0 := (unhide Hx).at 0 rfl
  rw [unhide h4b] at u0
  have v0 := unhide H0
  have v1 := unhide H1
  clear hnm Hp Hx HV H0 H1 h1b h1e h4b
  go_wp2_with fail
  refine (errIs_c 10 10 X5).mono ?_
  rintro r w ⟨rfl, rfl⟩
  go_wp2_with fail
  refine (errIs_c 21 21 _).mono ?_
  rintro r w ⟨rfl, rfl⟩
  go_wp2_with fail
  refine (errIs_c 12 12 _).mono ?_
  rintro r w ⟨rfl, rfl⟩
  go_wp2_with fail
  go_ret
  exact ⟨rfl, unhide Hb⟩
end Go.Proofs.YtmhpakhnclkenaaGreatDoor
