/-
  CheckOps' walk.
-/
import Derived.Test.YtllpigbmkhanjaaKnB
namespace Go.Proofs.Ytllpigbmkhanjaa
open Go.RowKit Go.Shelf

attribute [local go_sem] Oper.semAt_some

def nmT : Nat → Txt
  | 0 => tk [110]
  | 1 => tk [115]
  | _ => tk [98]
theorem nm_cell {W : World} {B : Nat} (h : Box W B 23 #[.string ⟨#[110]⟩, .string ⟨#[115]⟩, .string ⟨#[98]⟩]) (i : Nat) (hi : i < 3) : W.cell? ⟨B, i, none⟩ = some (.string (nmT i).1) := by
  match i, hi with
  | 0, _ => exact h.at 0 rfl
  | 1, _ => exact h.at 1 rfl
  | 2, _ => exact h.at 2 rfl
abbrev opD (o : Int) : Dat := ⟨o, 0, 0, t0, t0, t0⟩
abbrev two14 (x y : Dat) : Array Value := #[.int .i64 x.op, .int .i64 x.k, .int .i64 x.n, .string x.s.1, .string x.al.1, .string x.fd.1, .slice none 0 0, .int .i64 y.op, .int .i64 y.k, .int .i64 y.n, .string y.s.1, .string y.al.1, .string y.fd.1, .slice none 0 0]
theorem lies_two {W : World} {g : Nat} (x y : Dat) (h : Box W g 28 (two14 x y)) : Lies W.heap.size W (some ⟨g, 0, none⟩) [.mk x [], .mk y []] := by
  refine .row _ 0 _ (fun _ => (none, 0)) (by simp) h.lt (fun j t ht => ?_) (fun j t ht => ?_)
  · match j, ht with
    | 0, ht =>
      simp only [List.getElem?_cons_zero, Option.some.injEq] at ht
      subst ht
      intro i u hu
      exact h.at (0 + 0 * 7 + i) (by
        match i, hu with
        | 0, hu => exact hu
        | 1, hu => exact hu
        | 2, hu => exact hu
        | 3, hu => exact hu
        | 4, hu => exact hu
        | 5, hu => exact hu
        | 6, hu => exact hu
        | i + 7, hu => simp at hu)
    | 1, ht =>
      simp only [List.getElem?_cons_succ, List.getElem?_cons_zero, Option.some.injEq] at ht
      subst ht
      intro i u hu
      exact h.at (0 + 1 * 7 + i) (by
        match i, hu with
        | 0, hu => exact hu
        | 1, hu => exact hu
        | 2, hu => exact hu
        | 3, hu => exact hu
        | 4, hu => exact hu
        | 5, hu => exact hu
        | 6, hu => exact hu
        | i + 7, hu => simp at hu)
    | j + 2, ht => simp at ht
  · match j, ht with
    | 0, ht => simp only [List.getElem?_cons_zero, Option.some.injEq] at ht; subst ht; exact .nil _
    | 1, ht => simp only [List.getElem?_cons_succ, List.getElem?_cons_zero, Option.some.injEq] at ht; subst ht; exact .nil _
    | j + 2, ht => simp at ht
theorem lies_first {W : World} {g : Nat} (x y : Dat) (h : Box W g 28 (two14 x y)) : Lies W.heap.size W (some ⟨g, 0, none⟩) [.mk x []] := by
  have := lies_two x y h
  cases this with
  | row b off ks f hl hb hc hk =>
    refine .row _ 0 _ f (by simp) h.lt (fun j t ht => ?_) (fun j t ht => ?_)
    · cases j with
      | zero => exact hc 0 t ht
      | succ j => simp at ht
    · cases j with
      | zero => exact hk 0 t ht
      | succ j => simp at ht
set_option maxHeartbeats 1000000 in
theorem two7_c (op : Int) (x y : Dat) (w : World) : Calls Try.prog 7 #[.int .i64 op, x.v none 0 0, y.v none 0 0] w fun r W' => ∃ g, r = .returned ((opD op).v (some ⟨g, 0, none⟩) 2 2) ∧ w.heap.size ≤ g ∧ Box W' g 28 (two14 x y) ∧ Below w.heap.size w W' := by
  go_enter Try.func7, Try.ntmps7
  go_wp2_with fail
  obtain ⟨W3, hW3⟩ : ∃ W3, W3 = ((w.alloc (.cells (x.cs none 0 0) 28)).alloc (.cells (y.cs none 0 0) 28)).alloc (.cells ((opD op).cs (some ⟨w.heap.size + 1 + 1 + 1, 0, none⟩) 2 2) 28) := ⟨_, rfl⟩
  have e3 : W3.heap.size = w.heap.size + 1 + 1 + 1 := by rw [hW3]; simp
  have b3 : Below w.heap.size w W3 := by rw [hW3]; exact (((Below.refl _ _).alloc (Nat.le_refl _) _).alloc (by simp) _).alloc (by simp; omega) _
  have x3 : Box W3 (w.heap.size + 1 + 1) 28 ((opD op).cs (some ⟨w.heap.size + 1 + 1 + 1, 0, none⟩) 2 2) := by
    have := Box.new ((w.alloc (.cells (x.cs none 0 0) 28)).alloc (.cells (y.cs none 0 0) 28)) 28 ((opD op).cs (some ⟨w.heap.size + 1 + 1 + 1, 0, none⟩) 2 2)
    simp only [World.size_alloc] at this
    rw [hW3]; exact this
  obtain ⟨W4, hW4⟩ : ∃ W4, W4 = W3.alloc (.cells (two14 x y) 28) := ⟨_, rfl⟩
  have b4 : Below w.heap.size w W4 := by rw [hW4]; exact b3.alloc (by omega) _
  have x4 : Box W4 (w.heap.size + 1 + 1 + 1) 28 (two14 x y) := by rw [hW4, ← e3]; exact Box.new _ _ _
  have x5 : Box W4 (w.heap.size + 1 + 1) 28 ((opD op).cs (some ⟨w.heap.size + 1 + 1 + 1, 0, none⟩) 2 2) := by rw [hW4]; exact x3.alloc _
  obtain ⟨q0, q1, q2, q3, q4, q5, q6⟩ := x5.seven
  rw [← hW3, ← hW4]
  clear hW3 hW4 x3
  exact bodyPost_ret (v := (opD op).v (some ⟨w.heap.size + 1 + 1 + 1, 0, none⟩) 2 2) (by simp [results, Try.results7, go_sem, q0, q1, q2, q3, q4, q5, q6]) rfl ⟨_, rfl, by omega, x4, b4⟩

theorem tailB {w W : World} (h : Below w.heap.size w W) {o : Obj} : Below w.heap.size w (W.alloc o) := h.alloc h.size o
/-- What lies behind the making of the condition. -/
structure OpsL (w : World) (o : Int) (x y : Dat) (v : Value) (W : World) : Prop where
  out : ∃ D g, v = .pointer (some ⟨D, 0, none⟩) ∧ Box W D 28 ((opD o).cs (some ⟨g, 0, none⟩) 2 2) ∧ Box W g 28 (two14 x y) ∧ D ≠ g ∧ w.heap.size ≤ D
  bel : Below w.heap.size w W
def elB : Em := ⟨tk [97], [tk [116]], false, false, e0⟩
theorem store7 {W : World} {D g : Nat} {c : Array Value} (o : Int) (hD : Box W D 28 #[.int .i64 0, .int .i64 0, .int .i64 0, .string ⟨#[]⟩, .string ⟨#[]⟩, .string ⟨#[]⟩, .slice none 0 0]) (hg : Box W g 28 c) (hne : D ≠ g) (a : Option Addr) (W' : World)
    (hW : W' = ((((((W.setCell ⟨D, 0, none⟩ (.int .i64 o)).setCell ⟨D, 1, none⟩ (.int .i64 0)).setCell ⟨D, 2, none⟩ (.int .i64 0)).setCell ⟨D, 3, none⟩ (.string ⟨#[]⟩)).setCell ⟨D, 4, none⟩ (.string ⟨#[]⟩)).setCell ⟨D, 5, none⟩ (.string ⟨#[]⟩)).setCell ⟨D, 6, none⟩ (.slice a 2 2)) :
    Box W' D 28 ((opD o).cs a 2 2) ∧ Box W' g 28 c ∧ ∀ n A, n ≤ D → Below n A W → Below n A W' := by
  subst hW
  refine ⟨?_, ?_, fun n A hn hb => ?_⟩
  · have := ((((((hD.set 0 (.int .i64 o)).set 1 (.int .i64 0)).set 2 (.int .i64 0)).set 3 (.string ⟨#[]⟩)).set 4 (.string ⟨#[]⟩)).set 5 (.string ⟨#[]⟩)).set 6 (.slice a 2 2)
    simpa using this
  · exact ((((((hg.other _ _ hne).other _ _ hne).other _ _ hne).other _ _ hne).other _ _ hne).other _ _ hne).other _ _ hne
  · exact ((((((hb.setCell (p := ⟨D, 0, none⟩) hn _).setCell (p := ⟨D, 1, none⟩) hn _).setCell (p := ⟨D, 2, none⟩) hn _).setCell (p := ⟨D, 3, none⟩) hn _).setCell (p := ⟨D, 4, none⟩) hn _).setCell (p := ⟨D, 5, none⟩) hn _).setCell (p := ⟨D, 6, none⟩) hn _
abbrev zero28 : Array Value := #[.int .i64 0, .int .i64 0, .int .i64 0, .string ⟨#[]⟩, .string ⟨#[]⟩, .string ⟨#[]⟩, .slice none 0 0]

set_option maxRecDepth 100000 in
set_option maxHeartbeats 8000000 in
theorem ops3_0 (n0 n1 n2 : Int) (h0 : 0 ≤ n0) (h1 : n0 ≤ 255) (h2 : 0 ≤ n1) (h3 : n1 ≤ 255) (h4 : 0 ≤ n2) (h5 : n2 ≤ 255) (hm : n0 % 10 = 0) (w : World) : Calls Try.prog 3 #[.int .u8 n0, .int .u8 n1, .int .u8 n2] w fun e w' => e = .returned (.bool true) ∧ Below w.heap.size w w' := by
  have cK := hide (known6_c w)
  obtain ⟨i, hi3, hi⟩ : ∃ i : Nat, i < 3 ∧ n1 % 3 = (i : Int) := ⟨(n1 % 3).toNat, by omega, by omega⟩
  obtain ⟨j, hj3, hj⟩ : ∃ j : Nat, j < 3 ∧ n2 % 3 = (j : Int) := ⟨(n2 % 3).toNat, by omega, by omega⟩
  have hmx : Try.prog.follows .mixedOrders = true := by kernel_rfl
  go_enter Try.func3, Try.ntmps3
  go_wp2_with fail
  refine (unhide cK).mono ?_
  rintro r w1 ⟨rfl, hb1⟩
  clear cK
  obtain ⟨B, hB⟩ : ∃ B, B = w1.heap.size := ⟨_, rfl⟩
  obtain ⟨W2, hW2⟩ : ∃ W2, W2 = w1.alloc (.cells #[.string ⟨#[110]⟩, .string ⟨#[115]⟩, .string ⟨#[98]⟩] 23) := ⟨_, rfl⟩
  have x2 : Box W2 B 23 #[.string ⟨#[110]⟩, .string ⟨#[115]⟩, .string ⟨#[98]⟩] := by rw [hW2, hB]; exact Box.new _ _ _
  have b2 : Below w.heap.size w W2 := by rw [hW2]; exact hb1.alloc hb1.size _
  have hwB : w.heap.size ≤ B := by rw [hB]; exact hb1.size
  go_upto_region 6 with fail
  rw [← hB, ← hW2]
  clear hB hW2 hb1
  replace hm := hide hm
  replace hi := hide hi
  replace hj := hide hj
  have hiI : (i : Int) < 3 := by omega
  have hjI : (j : Int) < 3 := by omega
  go_cut [11] from 107 (fun v11 wc => Hid (OpsL w 3 (fieldD (tk [97]) (nmT i)) (fieldD (tk [97]) (nmT j)) v11 wc))
  case first =>
    obtain ⟨D0, hD0⟩ : ∃ D0, D0 = W2.drew := ⟨_, rfl⟩
    have bD : Below W2.heap.size W2 D0 := by rw [hD0]; exact (Below.refl _ _).drew
    have cD0 : Box D0 B 23 #[.string ⟨#[110]⟩, .string ⟨#[115]⟩, .string ⟨#[98]⟩] := x2.on bD x2.lt
    have hb0 : Below w.heap.size w D0 := b2.trans (bD.mono b2.size)
    refine wp_region_any hmx (wpAny_of_C (C := fun w' => Box w' B 23 #[.string ⟨#[110]⟩, .string ⟨#[115]⟩, .string ⟨#[98]⟩]) _ _ _ _ ?_)
    rw [show ({ heap := W2.heap, tape := W2.tape, drawn := W2.drawn + 1, os := W2.os, output := W2.output } : World) = D0 from hD0.symm]
    clear hD0 bD b2 x2
    refine wpAnyC_reads 0 cD0 (by kernel_rfl) (by kernel_rfl) (by kernel_rfl) (fun d _ _ _ _ h => by cases d <;> exact h) (fun oi ho K hK => ?_)
    simp only [List.getElem?_toArray, List.getElem?_cons_zero, Option.some.injEq] at ho
    subst ho
    rw [if_pos (by kernel_rfl)]
    refine ⟨.int .i64 3, fun w' hw' => ?_, hK _ ?_⟩
    · clear hw'
      go_simp
    clear hK K
    refine wpAnyC_reads 1 cD0 (by kernel_rfl) (by kernel_rfl) (by kernel_rfl) (fun d _ _ _ _ h => by cases d <;> exact h) (fun oi ho K hK => ?_)
    simp only [List.getElem?_toArray, List.getElem?_cons_succ, List.getElem?_cons_zero, Option.some.injEq] at ho
    subst ho
    rw [if_pos (by kernel_rfl)]
    refine ⟨.int .i64 i, fun w' hw' => ?_, hK _ ?_⟩
    · clear hw'
      go_simp
    clear hK K
    refine wpAnyC_reads 2 cD0 (by kernel_rfl) (by kernel_rfl) (by kernel_rfl) (fun d _ _ _ _ h => by cases d <;> exact h) (fun oi ho K hK => ?_)
    simp only [List.getElem?_toArray, List.getElem?_cons_succ, List.getElem?_cons_zero, Option.some.injEq] at ho
    subst ho
    rw [if_pos (by kernel_rfl)]
    refine ⟨.pointer (some ⟨B, i, none⟩), fun w' hw' => ?_, hK _ ?_⟩
    · clear hw'
      go_simp
    clear hK K
    refine wpAnyC_reads 3 cD0 (by kernel_rfl) (by kernel_rfl) (by kernel_rfl) (fun d _ _ _ _ h => by cases d <;> exact h) (fun oi ho K hK => ?_)
    simp only [List.getElem?_toArray, List.getElem?_cons_succ, List.getElem?_cons_zero, Option.some.injEq] at ho
    subst ho
    rw [if_pos (by kernel_rfl)]
    refine ⟨.string (nmT i).1, fun w' hw' => ?_, hK _ ?_⟩
    · have hs0 := nm_cell hw' i hi3
      have hs1 := nm_cell hw' j hj3
      go_simp
    clear hK K
    refine wpAnyC_reads 5 cD0 (by kernel_rfl) (by kernel_rfl) (by kernel_rfl) (fun d _ _ _ _ h => by cases d <;> exact h) (fun oi ho K hK => ?_)
    simp only [List.getElem?_toArray, List.getElem?_cons_succ, List.getElem?_cons_zero, Option.some.injEq] at ho
    subst ho
    rw [if_pos (by kernel_rfl)]
    refine ⟨.int .i64 j, fun w' hw' => ?_, hK _ ?_⟩
    · clear hw'
      go_simp
    clear hK K
    refine wpAnyC_reads 6 cD0 (by kernel_rfl) (by kernel_rfl) (by kernel_rfl) (fun d _ _ _ _ h => by cases d <;> exact h) (fun oi ho K hK => ?_)
    simp only [List.getElem?_toArray, List.getElem?_cons_succ, List.getElem?_cons_zero, Option.some.injEq] at ho
    subst ho
    rw [if_pos (by kernel_rfl)]
    refine ⟨.pointer (some ⟨B, j, none⟩), fun w' hw' => ?_, hK _ ?_⟩
    · clear hw'
      go_simp
    clear hK K
    refine wpAnyC_reads 7 cD0 (by kernel_rfl) (by kernel_rfl) (by kernel_rfl) (fun d _ _ _ _ h => by cases d <;> exact h) (fun oi ho K hK => ?_)
    simp only [List.getElem?_toArray, List.getElem?_cons_succ, List.getElem?_cons_zero, Option.some.injEq] at ho
    subst ho
    rw [if_pos (by kernel_rfl)]
    refine ⟨.string (nmT j).1, fun w' hw' => ?_, hK _ ?_⟩
    · have hs0 := nm_cell hw' i hi3
      have hs1 := nm_cell hw' j hj3
      go_simp
    clear hK K
    refine wpAnyC_two 4 10 (by kernel_rfl) (fun oi ho K hK => ?_) (fun oi ho K hK => ?_)
    · simp only [List.getElem?_toArray, List.getElem?_cons_succ, List.getElem?_cons_zero, Option.some.injEq] at ho
      subst ho
      go_simp
      refine (field8_c (tk [97]) (nmT i) D0).mono ?_
      rintro r U1 ⟨rfl, bU1⟩
      have hb1 := hb0.trans (bU1.mono hb0.size)
      have cD1 := cD0.on bU1 cD0.lt
      go_simp
      refine hK _ _ cD1 ?_
      clear hK K
      refine wpAnyC_two 8 10 (by kernel_rfl) (fun oi ho K hK => ?_) (fun oi ho K hK => ?_)
      · simp only [List.getElem?_toArray, List.getElem?_cons_succ, List.getElem?_cons_zero, Option.some.injEq] at ho
        subst ho
        go_simp
        refine (field8_c (tk [97]) (nmT j) U1).mono ?_
        rintro r U2 ⟨rfl, bU2⟩
        have hb2 := hb1.trans (bU2.mono hb1.size)
        have cD2 := cD1.on bU2 cD1.lt
        go_simp
        refine hK _ _ cD2 ?_
        clear hK K
        refine wpAnyC_two 9 10 (by kernel_rfl) (fun oi ho K hK => ?_) (fun oi ho K hK => ?_)
        · simp only [List.getElem?_toArray, List.getElem?_cons_succ, List.getElem?_cons_zero, Option.some.injEq] at ho
          subst ho
          go_simp
          refine (two7_c 3 (fieldD (tk [97]) (nmT i)) (fieldD (tk [97]) (nmT j)) U2).mono ?_
          rintro r U3 ⟨g, rfl, hg, xg, bU3⟩
          have hb3 := hb2.trans (bU3.mono hb2.size)
          have cD3 := cD2.on bU3 cD2.lt
          go_simp
          refine hK _ _ cD3 ?_
          clear hK K
          refine wpAnyC_calls 10 (by kernel_rfl) (fun oi ho K hK => ?_)
          simp only [List.getElem?_toArray, List.getElem?_cons_succ, List.getElem?_cons_zero, Option.some.injEq] at ho
          subst ho
          go_simp
          obtain ⟨U4, hU4⟩ : ∃ U4, U4 = U3.alloc (.cells zero28 28) := ⟨_, rfl⟩
          have bU4 : Below U3.heap.size U3 U4 := by rw [hU4]; exact (Below.refl _ _).alloc (Nat.le_refl _) _
          have hb4 := hb3.trans (bU4.mono hb3.size)
          have cD4 := cD3.on bU4 cD3.lt
          obtain ⟨D, hD⟩ : ∃ D, D = U3.heap.size := ⟨_, rfl⟩
          have xD4 : Box U4 D 28 zero28 := by rw [hU4, hD]; exact Box.new _ _ _
          have hwD : w.heap.size ≤ D := by rw [hD]; exact hb3.size
          have hBD : B < D := by rw [hD]; exact cD3.lt
          have hne : D ≠ g := by have := xg.lt; omega
          have xg := xg.on bU4 xg.lt
          rw [← hD, ← hU4]
          refine hK _ _ cD4 ?_
          clear hK K hU4 hD
          have hf0 := xD4.frz
          obtain ⟨z0, z1, z2, z3, z4, z5, z6⟩ := xD4.seven
          have hst := fun W' hW => store7 (D := D) (g := g) 3 xD4 xg hne (some ⟨g, 0, none⟩) W' hW
          replace hst := hide hst
          replace hb4 := hide hb4
          have z7 := hf0 0
          have z8 := hf0 1
          have z9 := hf0 2
          have z10 := hf0 3
          have z11 := hf0 4
          have z12 := hf0 5
          have z13 := hf0 6
          clear hf0
          refine wpAnyC_calls 11 (by kernel_rfl) (fun oi ho K hK => ?_)
          simp only [List.getElem?_toArray, List.getElem?_cons_succ, List.getElem?_cons_zero, Option.some.injEq] at ho
          subst ho
          go_simp
          have hq := unhide hst _ rfl
          refine hK _ _ ?_ ?_
          · have := cD4
            exact ((((((this.other _ _ (by simp only; omega)).other _ _ (by simp only; omega)).other _ _ (by simp only; omega)).other _ _ (by simp only; omega)).other _ _ (by simp only; omega)).other _ _ (by simp only; omega)).other _ _ (by simp only; omega)
          clear hK K
          refine wpAnyC_done (by kernel_rfl) ?_ _
          go_wp2_with fail
          go_meet
          exact ⟨⟨D, g, rfl, hq.1, hq.2.1, hne, hwD⟩, hq.2.2 _ _ hwD (unhide hb4)⟩
        · simp only [List.getElem?_toArray, List.getElem?_cons_succ, List.getElem?_cons_zero, Option.some.injEq] at ho
          subst ho
          go_simp
          obtain ⟨U3, hU3⟩ : ∃ U3, U3 = U2.alloc (.cells zero28 28) := ⟨_, rfl⟩
          have bU3 : Below U2.heap.size U2 U3 := by rw [hU3]; exact (Below.refl _ _).alloc (Nat.le_refl _) _
          have hb3 := hb2.trans (bU3.mono hb2.size)
          have cD3 := cD2.on bU3 cD2.lt
          obtain ⟨D, hD⟩ : ∃ D, D = U2.heap.size := ⟨_, rfl⟩
          have xD3 : Box U3 D 28 zero28 := by rw [hU3, hD]; exact Box.new _ _ _
          have hwD : w.heap.size ≤ D := by rw [hD]; exact hb2.size
          have hBD : B < D := by rw [hD]; exact cD2.lt
          rw [← hD, ← hU3]
          refine hK _ _ cD3 ?_
          clear hK K hU3 hD
          refine wpAnyC_calls 9 (by kernel_rfl) (fun oi ho K hK => ?_)
          simp only [List.getElem?_toArray, List.getElem?_cons_succ, List.getElem?_cons_zero, Option.some.injEq] at ho
          subst ho
          go_simp
          refine (two7_c 3 (fieldD (tk [97]) (nmT i)) (fieldD (tk [97]) (nmT j)) U3).mono ?_
          rintro r U4 ⟨g, rfl, hg, xg, bU4⟩
          have hne : D ≠ g := by have := xD3.lt; omega
          have hb4 := hb3.trans (bU4.mono hb3.size)
          have cD4 := cD3.on bU4 cD3.lt
          have xD4 := xD3.on bU4 xD3.lt
          go_simp
          refine hK _ _ cD4 ?_
          clear hK K
          have hf0 := xD4.frz
          obtain ⟨z0, z1, z2, z3, z4, z5, z6⟩ := xD4.seven
          have hst := fun W' hW => store7 (D := D) (g := g) 3 xD4 xg hne (some ⟨g, 0, none⟩) W' hW
          replace hst := hide hst
          replace hb4 := hide hb4
          have z7 := hf0 0
          have z8 := hf0 1
          have z9 := hf0 2
          have z10 := hf0 3
          have z11 := hf0 4
          have z12 := hf0 5
          have z13 := hf0 6
          clear hf0
          refine wpAnyC_calls 11 (by kernel_rfl) (fun oi ho K hK => ?_)
          simp only [List.getElem?_toArray, List.getElem?_cons_succ, List.getElem?_cons_zero, Option.some.injEq] at ho
          subst ho
          go_simp
          have hq := unhide hst _ rfl
          refine hK _ _ ?_ ?_
          · have := cD4
            exact ((((((this.other _ _ (by simp only; omega)).other _ _ (by simp only; omega)).other _ _ (by simp only; omega)).other _ _ (by simp only; omega)).other _ _ (by simp only; omega)).other _ _ (by simp only; omega)).other _ _ (by simp only; omega)
          clear hK K
          refine wpAnyC_done (by kernel_rfl) ?_ _
          go_wp2_with fail
          go_meet
          exact ⟨⟨D, g, rfl, hq.1, hq.2.1, hne, hwD⟩, hq.2.2 _ _ hwD (unhide hb4)⟩
      · simp only [List.getElem?_toArray, List.getElem?_cons_succ, List.getElem?_cons_zero, Option.some.injEq] at ho
        subst ho
        go_simp
        obtain ⟨U2, hU2⟩ : ∃ U2, U2 = U1.alloc (.cells zero28 28) := ⟨_, rfl⟩
        have bU2 : Below U1.heap.size U1 U2 := by rw [hU2]; exact (Below.refl _ _).alloc (Nat.le_refl _) _
        have hb2 := hb1.trans (bU2.mono hb1.size)
        have cD2 := cD1.on bU2 cD1.lt
        obtain ⟨D, hD⟩ : ∃ D, D = U1.heap.size := ⟨_, rfl⟩
        have xD2 : Box U2 D 28 zero28 := by rw [hU2, hD]; exact Box.new _ _ _
        have hwD : w.heap.size ≤ D := by rw [hD]; exact hb1.size
        have hBD : B < D := by rw [hD]; exact cD1.lt
        rw [← hD, ← hU2]
        refine hK _ _ cD2 ?_
        clear hK K hU2 hD
        refine wpAnyC_calls 8 (by kernel_rfl) (fun oi ho K hK => ?_)
        simp only [List.getElem?_toArray, List.getElem?_cons_succ, List.getElem?_cons_zero, Option.some.injEq] at ho
        subst ho
        go_simp
        refine (field8_c (tk [97]) (nmT j) U2).mono ?_
        rintro r U3 ⟨rfl, bU3⟩
        have hb3 := hb2.trans (bU3.mono hb2.size)
        have cD3 := cD2.on bU3 cD2.lt
        have xD3 := xD2.on bU3 xD2.lt
        go_simp
        refine hK _ _ cD3 ?_
        clear hK K
        refine wpAnyC_calls 9 (by kernel_rfl) (fun oi ho K hK => ?_)
        simp only [List.getElem?_toArray, List.getElem?_cons_succ, List.getElem?_cons_zero, Option.some.injEq] at ho
        subst ho
        go_simp
        refine (two7_c 3 (fieldD (tk [97]) (nmT i)) (fieldD (tk [97]) (nmT j)) U3).mono ?_
        rintro r U4 ⟨g, rfl, hg, xg, bU4⟩
        have hne : D ≠ g := by have := xD3.lt; omega
        have hb4 := hb3.trans (bU4.mono hb3.size)
        have cD4 := cD3.on bU4 cD3.lt
        have xD4 := xD3.on bU4 xD3.lt
        go_simp
        refine hK _ _ cD4 ?_
        clear hK K
        have hf0 := xD4.frz
        obtain ⟨z0, z1, z2, z3, z4, z5, z6⟩ := xD4.seven
        have hst := fun W' hW => store7 (D := D) (g := g) 3 xD4 xg hne (some ⟨g, 0, none⟩) W' hW
        replace hst := hide hst
        replace hb4 := hide hb4
        have z7 := hf0 0
        have z8 := hf0 1
        have z9 := hf0 2
        have z10 := hf0 3
        have z11 := hf0 4
        have z12 := hf0 5
        have z13 := hf0 6
        clear hf0
        refine wpAnyC_calls 11 (by kernel_rfl) (fun oi ho K hK => ?_)
        simp only [List.getElem?_toArray, List.getElem?_cons_succ, List.getElem?_cons_zero, Option.some.injEq] at ho
        subst ho
        go_simp
        have hq := unhide hst _ rfl
        refine hK _ _ ?_ ?_
        · have := cD4
          exact ((((((this.other _ _ (by simp only; omega)).other _ _ (by simp only; omega)).other _ _ (by simp only; omega)).other _ _ (by simp only; omega)).other _ _ (by simp only; omega)).other _ _ (by simp only; omega)).other _ _ (by simp only; omega)
        clear hK K
        refine wpAnyC_done (by kernel_rfl) ?_ _
        go_wp2_with fail
        go_meet
        exact ⟨⟨D, g, rfl, hq.1, hq.2.1, hne, hwD⟩, hq.2.2 _ _ hwD (unhide hb4)⟩
    · simp only [List.getElem?_toArray, List.getElem?_cons_succ, List.getElem?_cons_zero, Option.some.injEq] at ho
      subst ho
      go_simp
      obtain ⟨U1, hU1⟩ : ∃ U1, U1 = D0.alloc (.cells zero28 28) := ⟨_, rfl⟩
      have bU1 : Below D0.heap.size D0 U1 := by rw [hU1]; exact (Below.refl _ _).alloc (Nat.le_refl _) _
      have hb1 := hb0.trans (bU1.mono hb0.size)
      have cD1 := cD0.on bU1 cD0.lt
      obtain ⟨D, hD⟩ : ∃ D, D = D0.heap.size := ⟨_, rfl⟩
      have xD1 : Box U1 D 28 zero28 := by rw [hU1, hD]; exact Box.new _ _ _
      have hwD : w.heap.size ≤ D := by rw [hD]; exact hb0.size
      have hBD : B < D := by rw [hD]; exact cD0.lt
      rw [← hD, ← hU1]
      refine hK _ _ cD1 ?_
      clear hK K hU1 hD
      refine wpAnyC_calls 4 (by kernel_rfl) (fun oi ho K hK => ?_)
      simp only [List.getElem?_toArray, List.getElem?_cons_succ, List.getElem?_cons_zero, Option.some.injEq] at ho
      subst ho
      go_simp
      refine (field8_c (tk [97]) (nmT i) U1).mono ?_
      rintro r U2 ⟨rfl, bU2⟩
      have hb2 := hb1.trans (bU2.mono hb1.size)
      have cD2 := cD1.on bU2 cD1.lt
      have xD2 := xD1.on bU2 xD1.lt
      go_simp
      refine hK _ _ cD2 ?_
      clear hK K
      refine wpAnyC_calls 8 (by kernel_rfl) (fun oi ho K hK => ?_)
      simp only [List.getElem?_toArray, List.getElem?_cons_succ, List.getElem?_cons_zero, Option.some.injEq] at ho
      subst ho
      go_simp
      refine (field8_c (tk [97]) (nmT j) U2).mono ?_
      rintro r U3 ⟨rfl, bU3⟩
      have hb3 := hb2.trans (bU3.mono hb2.size)
      have cD3 := cD2.on bU3 cD2.lt
      have xD3 := xD2.on bU3 xD2.lt
      go_simp
      refine hK _ _ cD3 ?_
      clear hK K
      refine wpAnyC_calls 9 (by kernel_rfl) (fun oi ho K hK => ?_)
      simp only [List.getElem?_toArray, List.getElem?_cons_succ, List.getElem?_cons_zero, Option.some.injEq] at ho
      subst ho
      go_simp
      refine (two7_c 3 (fieldD (tk [97]) (nmT i)) (fieldD (tk [97]) (nmT j)) U3).mono ?_
      rintro r U4 ⟨g, rfl, hg, xg, bU4⟩
      have hne : D ≠ g := by have := xD3.lt; omega
      have hb4 := hb3.trans (bU4.mono hb3.size)
      have cD4 := cD3.on bU4 cD3.lt
      have xD4 := xD3.on bU4 xD3.lt
      go_simp
      refine hK _ _ cD4 ?_
      clear hK K
      have hf0 := xD4.frz
      obtain ⟨z0, z1, z2, z3, z4, z5, z6⟩ := xD4.seven
      have hst := fun W' hW => store7 (D := D) (g := g) 3 xD4 xg hne (some ⟨g, 0, none⟩) W' hW
      replace hst := hide hst
      replace hb4 := hide hb4
      have z7 := hf0 0
      have z8 := hf0 1
      have z9 := hf0 2
      have z10 := hf0 3
      have z11 := hf0 4
      have z12 := hf0 5
      have z13 := hf0 6
      clear hf0
      refine wpAnyC_calls 11 (by kernel_rfl) (fun oi ho K hK => ?_)
      simp only [List.getElem?_toArray, List.getElem?_cons_succ, List.getElem?_cons_zero, Option.some.injEq] at ho
      subst ho
      go_simp
      have hq := unhide hst _ rfl
      refine hK _ _ ?_ ?_
      · have := cD4
        exact ((((((this.other _ _ (by simp only; omega)).other _ _ (by simp only; omega)).other _ _ (by simp only; omega)).other _ _ (by simp only; omega)).other _ _ (by simp only; omega)).other _ _ (by simp only; omega)).other _ _ (by simp only; omega)
      clear hK K
      refine wpAnyC_done (by kernel_rfl) ?_ _
      go_wp2_with fail
      go_meet
      exact ⟨⟨D, g, rfl, hq.1, hq.2.1, hne, hwD⟩, hq.2.2 _ _ hwD (unhide hb4)⟩
  case rest =>
    replace hcut := unhide hcut
    obtain ⟨⟨D, g, rfl, xD, xg, hne, hwD⟩, hbw⟩ := hcut
    obtain ⟨q0, q1, q2, q3, q4, q5, q6⟩ := xD.seven
    have hf6 := xD.frz 6
    go_upto_region 9 with fail
    obtain ⟨W5, hW5⟩ : ∃ W5, W5 = wc := ⟨_, rfl⟩
    rw [← hW5] at xD xg hbw ⊢
    have x5 := xD
    have g5 := xg
    have b5 := hbw
    clear hW5 xD xg hbw
    clear q0 q1 q2 q3 q4 q5 q6 hf6
    obtain ⟨⟨r1, r2⟩, hR⟩ : ∃ R, R = kindP baseT [elB] (.mk (opD 3) [fieldT (tk [97]) (nmT i), fieldT (tk [97]) (nmT j)]) := ⟨_, rfl⟩
    replace hR := hide hR
    go_cut [12, 13] from 107 (fun v12 v13 wd => (v12 = .int .i64 r1 ∧ v13 = errO r2) ∧ Hid (Below w.heap.size w wd))
    case first =>
      obtain ⟨D0, hD0⟩ : ∃ D0, D0 = W5.drew := ⟨_, rfl⟩
      have bD : Below W5.heap.size W5 D0 := by rw [hD0]; exact (Below.refl _ _).drew
      have cD0 : Box D0 D 28 ((opD 3).cs (some ⟨g, 0, none⟩) 2 2) := x5.on bD x5.lt
      have gD0 := g5.on bD g5.lt
      have hb0 : Below w.heap.size w D0 := b5.trans (bD.mono b5.size)
      refine wp_region_any hmx (wpAny_of_C (C := fun w' => Box w' D 28 ((opD 3).cs (some ⟨g, 0, none⟩) 2 2)) _ _ _ _ ?_)
      rw [show ({ heap := W5.heap, tape := W5.tape, drawn := W5.drawn + 1, os := W5.os, output := W5.output } : World) = D0 from hD0.symm]
      clear hD0 bD b5 x5 g5
      refine wpAnyC_reads 4 cD0 (by kernel_rfl) (by kernel_rfl) (by kernel_rfl) (fun d _ _ _ _ h => by cases d <;> exact h) (fun oi ho K hK => ?_)
      simp only [List.getElem?_toArray, List.getElem?_cons_succ, List.getElem?_cons_zero, Option.some.injEq] at ho
      subst ho
      rw [if_pos (by kernel_rfl)]
      refine ⟨(opD 3).v (some ⟨g, 0, none⟩) 2 2, fun w' hw' => ?_, hK _ ?_⟩
      · obtain ⟨hs0, hs1, hs2, hs3, hs4, hs5, hs6⟩ := Box.seven hw'
        go_simp
      clear hK K
      refine wpAnyC_two 0 1 (by kernel_rfl) (fun oi ho K hK => ?_) (fun oi ho K hK => ?_)
      · simp only [List.getElem?_toArray, List.getElem?_cons_zero, Option.some.injEq] at ho
        subst ho
        go_simp
        refine (base_c D0).mono ?_
        rintro r U1 ⟨sa, rfl, sS, bU1⟩
        have hb1 := hb0.trans (bU1.mono hb0.size)
        have cD1 := cD0.on bU1 cD0.lt
        have gD1 := gD0.on bU1 gD0.lt
        go_simp
        refine hK _ _ cD1 ?_
        clear hK K
        refine wpAnyC_calls 1 (by kernel_rfl) (fun oi ho K hK => ?_)
        simp only [List.getElem?_toArray, List.getElem?_cons_succ, List.getElem?_cons_zero, Option.some.injEq] at ho
        subst ho
        obtain ⟨U2, hU2⟩ : ∃ U2, U2 = U1.alloc (.cells #[.string ⟨#[116]⟩] 9) := ⟨_, rfl⟩
        have bU2 : Below U1.heap.size U1 U2 := by rw [hU2]; exact (Below.refl _ _).alloc (Nat.le_refl _) _
        have hb2 := hb1.trans (bU2.mono hb1.size)
        have cD2 := cD1.on bU2 cD1.lt
        have gD2 := gD1.on bU2 gD1.lt
        have sS := sS.on bU2
        obtain ⟨P, hP⟩ : ∃ P, P = U1.heap.size := ⟨_, rfl⟩
        have xP : Box U2 P 9 #[.string (tk [116]).1] := by rw [hU2, hP]; exact Box.new _ _ _
        go_simp
        rw [← hP, ← hU2]
        refine hK _ _ cD2 ?_
        clear hK K hU2 hP
        refine wpAnyC_reads 2 cD2 (by kernel_rfl) (by kernel_rfl) (by kernel_rfl) (fun d _ _ _ _ h => by cases d <;> exact h) (fun oi ho K hK => ?_)
        simp only [List.getElem?_toArray, List.getElem?_cons_succ, List.getElem?_cons_zero, Option.some.injEq] at ho
        subst ho
        rw [if_pos (by kernel_rfl)]
        refine ⟨.agg #[.string ⟨#[97]⟩, .slice (some ⟨P, 0, none⟩) 1 1, .bool false, .bool false, .int .i64 0, .int .i64 0, .int .i64 0, .string ⟨#[]⟩, .string ⟨#[]⟩, .string ⟨#[]⟩, .slice none 0 0], fun w' hw' => ?_, hK _ ?_⟩
        · clear hw'
          go_simp
        clear hK K
        refine wpAnyC_calls 3 (by kernel_rfl) (fun oi ho K hK => ?_)
        simp only [List.getElem?_toArray, List.getElem?_cons_succ, List.getElem?_cons_zero, Option.some.injEq] at ho
        subst ho
        obtain ⟨U3, hU3⟩ : ∃ U3, U3 = U2.alloc (.cells (elB.cs ⟨some ⟨P, 0, none⟩, 1, none, 0⟩) 41) := ⟨_, rfl⟩
        have bU3 : Below U2.heap.size U2 U3 := by rw [hU3]; exact (Below.refl _ _).alloc (Nat.le_refl _) _
        have hb3 := hb2.trans (bU3.mono hb2.size)
        have cD3 := cD2.on bU3 cD2.lt
        have gD3 := gD2.on bU3 gD2.lt
        have sS := sS.on bU3
        have xP := xP.on bU3 xP.lt
        obtain ⟨Q, hQ⟩ : ∃ Q, Q = U2.heap.size := ⟨_, rfl⟩
        have xQ : Box U3 Q 41 (elB.cs ⟨some ⟨P, 0, none⟩, 1, none, 0⟩) := by rw [hU3, hQ]; exact Box.new _ _ _
        go_simp
        rw [← hQ, show U2.alloc (.cells #[.string ⟨#[97]⟩, .slice (some ⟨P, 0, none⟩) 1 1, .bool false, .bool false, .int .i64 0, .int .i64 0, .int .i64 0, .string ⟨#[]⟩, .string ⟨#[]⟩, .string ⟨#[]⟩, .slice none 0 0] 41) = U3 from hU3.symm]
        refine hK _ _ cD3 ?_
        clear hK K hU3 hQ
        have em := ems_box elB _ xQ ⟨txts_one _ xP, .nil _⟩
        have cK := hide (kind9_c (some ⟨Q, 0, none⟩) sa 1 2 baseT [elB] (some ⟨g, 0, none⟩) 2 (.mk (opD 3) [fieldT (tk [97]) (nmT i), fieldT (tk [97]) (nmT j)]) U3 sS em (lies_two _ _ gD3))
        rw [← unhide hR] at cK
        replace hb3 := hide hb3
        clear em
        refine wpAnyC_calls 5 (by kernel_rfl) (fun oi ho K hK => ?_)
        simp only [List.getElem?_toArray, List.getElem?_cons_succ, List.getElem?_cons_zero, Option.some.injEq] at ho
        subst ho
        go_simp
        refine (unhide cK).mono ?_
        rintro r U4 ⟨rfl, bU4⟩
        have hb4 := hide ((unhide hb3).trans (bU4.mono (unhide hb3).size))
        have cD4 := cD3.on bU4 cD3.lt
        dsimp only [KR.v, encK]
        go_simp
        refine hK _ _ cD4 ?_
        clear hK K cK
        refine wpAnyC_reads 6 cD4 (by kernel_rfl) (by kernel_rfl) (by kernel_rfl) (fun d _ _ _ _ h => by cases d <;> exact h) (fun oi ho K hK => ?_)
        simp only [List.getElem?_toArray, List.getElem?_cons_succ, List.getElem?_cons_zero, Option.some.injEq] at ho
        subst ho
        rw [if_pos (by kernel_rfl)]
        refine ⟨.tuple #[.int .i64 r1, errO r2], fun w' hw' => ?_, hK _ ?_⟩
        · clear hw'
          go_simp
        clear hK K
        refine wpAnyC_reads 7 cD4 (by kernel_rfl) (by kernel_rfl) (by kernel_rfl) (fun d _ _ _ _ h => by cases d <;> exact h) (fun oi ho K hK => ?_)
        simp only [List.getElem?_toArray, List.getElem?_cons_succ, List.getElem?_cons_zero, Option.some.injEq] at ho
        subst ho
        rw [if_pos (by kernel_rfl)]
        refine ⟨.int .i64 r1, fun w' hw' => ?_, hK _ ?_⟩
        · clear hw'
          go_simp
        clear hK K
        refine wpAnyC_reads 8 cD4 (by kernel_rfl) (by kernel_rfl) (by kernel_rfl) (fun d _ _ _ _ h => by cases d <;> exact h) (fun oi ho K hK => ?_)
        simp only [List.getElem?_toArray, List.getElem?_cons_succ, List.getElem?_cons_zero, Option.some.injEq] at ho
        subst ho
        rw [if_pos (by kernel_rfl)]
        refine ⟨errO r2, fun w' hw' => ?_, hK _ ?_⟩
        · clear hw'
          go_simp
        clear hK K
        refine wpAnyC_reads 9 cD4 (by kernel_rfl) (by kernel_rfl) (by kernel_rfl) (fun d _ _ _ _ h => by cases d <;> exact h) (fun oi ho K hK => ?_)
        simp only [List.getElem?_toArray, List.getElem?_cons_succ, List.getElem?_cons_zero, Option.some.injEq] at ho
        subst ho
        rw [if_pos (by kernel_rfl)]
        refine ⟨.int .i64 r1, fun w' hw' => ?_, hK _ ?_⟩
        · clear hw'
          go_simp
        clear hK K
        refine wpAnyC_reads 10 cD4 (by kernel_rfl) (by kernel_rfl) (by kernel_rfl) (fun d _ _ _ _ h => by cases d <;> exact h) (fun oi ho K hK => ?_)
        simp only [List.getElem?_toArray, List.getElem?_cons_succ, List.getElem?_cons_zero, Option.some.injEq] at ho
        subst ho
        rw [if_pos (by kernel_rfl)]
        refine ⟨errO r2, fun w' hw' => ?_, hK _ ?_⟩
        · clear hw'
          go_simp
        clear hK K
        refine wpAnyC_done (by kernel_rfl) ?_ _
        go_wp2_with fail
        go_meet
        exact ⟨⟨rfl, rfl⟩, hb4⟩
      · simp only [List.getElem?_toArray, List.getElem?_cons_succ, List.getElem?_cons_zero, Option.some.injEq] at ho
        subst ho
        obtain ⟨U1, hU1⟩ : ∃ U1, U1 = D0.alloc (.cells #[.string ⟨#[116]⟩] 9) := ⟨_, rfl⟩
        have bU1 : Below D0.heap.size D0 U1 := by rw [hU1]; exact (Below.refl _ _).alloc (Nat.le_refl _) _
        have hb1 := hb0.trans (bU1.mono hb0.size)
        have cD1 := cD0.on bU1 cD0.lt
        have gD1 := gD0.on bU1 gD0.lt
        obtain ⟨P, hP⟩ : ∃ P, P = D0.heap.size := ⟨_, rfl⟩
        have xP : Box U1 P 9 #[.string (tk [116]).1] := by rw [hU1, hP]; exact Box.new _ _ _
        go_simp
        rw [← hP, ← hU1]
        refine hK _ _ cD1 ?_
        clear hK K hU1 hP
        refine wpAnyC_reads 2 cD1 (by kernel_rfl) (by kernel_rfl) (by kernel_rfl) (fun d _ _ _ _ h => by cases d <;> exact h) (fun oi ho K hK => ?_)
        simp only [List.getElem?_toArray, List.getElem?_cons_succ, List.getElem?_cons_zero, Option.some.injEq] at ho
        subst ho
        rw [if_pos (by kernel_rfl)]
        refine ⟨.agg #[.string ⟨#[97]⟩, .slice (some ⟨P, 0, none⟩) 1 1, .bool false, .bool false, .int .i64 0, .int .i64 0, .int .i64 0, .string ⟨#[]⟩, .string ⟨#[]⟩, .string ⟨#[]⟩, .slice none 0 0], fun w' hw' => ?_, hK _ ?_⟩
        · clear hw'
          go_simp
        clear hK K
        refine wpAnyC_two 0 3 (by kernel_rfl) (fun oi ho K hK => ?_) (fun oi ho K hK => ?_)
        · simp only [List.getElem?_toArray, List.getElem?_cons_zero, Option.some.injEq] at ho
          subst ho
          go_simp
          refine (base_c U1).mono ?_
          rintro r U2 ⟨sa, rfl, sS, bU2⟩
          have hb2 := hb1.trans (bU2.mono hb1.size)
          have cD2 := cD1.on bU2 cD1.lt
          have gD2 := gD1.on bU2 gD1.lt
          have xP := xP.on bU2 xP.lt
          go_simp
          refine hK _ _ cD2 ?_
          clear hK K
          refine wpAnyC_calls 3 (by kernel_rfl) (fun oi ho K hK => ?_)
          simp only [List.getElem?_toArray, List.getElem?_cons_succ, List.getElem?_cons_zero, Option.some.injEq] at ho
          subst ho
          obtain ⟨U3, hU3⟩ : ∃ U3, U3 = U2.alloc (.cells (elB.cs ⟨some ⟨P, 0, none⟩, 1, none, 0⟩) 41) := ⟨_, rfl⟩
          have bU3 : Below U2.heap.size U2 U3 := by rw [hU3]; exact (Below.refl _ _).alloc (Nat.le_refl _) _
          have hb3 := hb2.trans (bU3.mono hb2.size)
          have cD3 := cD2.on bU3 cD2.lt
          have gD3 := gD2.on bU3 gD2.lt
          have sS := sS.on bU3
          have xP := xP.on bU3 xP.lt
          obtain ⟨Q, hQ⟩ : ∃ Q, Q = U2.heap.size := ⟨_, rfl⟩
          have xQ : Box U3 Q 41 (elB.cs ⟨some ⟨P, 0, none⟩, 1, none, 0⟩) := by rw [hU3, hQ]; exact Box.new _ _ _
          go_simp
          rw [← hQ, show U2.alloc (.cells #[.string ⟨#[97]⟩, .slice (some ⟨P, 0, none⟩) 1 1, .bool false, .bool false, .int .i64 0, .int .i64 0, .int .i64 0, .string ⟨#[]⟩, .string ⟨#[]⟩, .string ⟨#[]⟩, .slice none 0 0] 41) = U3 from hU3.symm]
          refine hK _ _ cD3 ?_
          clear hK K hU3 hQ
          have em := ems_box elB _ xQ ⟨txts_one _ xP, .nil _⟩
          have cK := hide (kind9_c (some ⟨Q, 0, none⟩) sa 1 2 baseT [elB] (some ⟨g, 0, none⟩) 2 (.mk (opD 3) [fieldT (tk [97]) (nmT i), fieldT (tk [97]) (nmT j)]) U3 sS em (lies_two _ _ gD3))
          rw [← unhide hR] at cK
          replace hb3 := hide hb3
          clear em
          refine wpAnyC_calls 5 (by kernel_rfl) (fun oi ho K hK => ?_)
          simp only [List.getElem?_toArray, List.getElem?_cons_succ, List.getElem?_cons_zero, Option.some.injEq] at ho
          subst ho
          go_simp
          refine (unhide cK).mono ?_
          rintro r U4 ⟨rfl, bU4⟩
          have hb4 := hide ((unhide hb3).trans (bU4.mono (unhide hb3).size))
          have cD4 := cD3.on bU4 cD3.lt
          dsimp only [KR.v, encK]
          go_simp
          refine hK _ _ cD4 ?_
          clear hK K cK
          refine wpAnyC_reads 6 cD4 (by kernel_rfl) (by kernel_rfl) (by kernel_rfl) (fun d _ _ _ _ h => by cases d <;> exact h) (fun oi ho K hK => ?_)
          simp only [List.getElem?_toArray, List.getElem?_cons_succ, List.getElem?_cons_zero, Option.some.injEq] at ho
          subst ho
          rw [if_pos (by kernel_rfl)]
          refine ⟨.tuple #[.int .i64 r1, errO r2], fun w' hw' => ?_, hK _ ?_⟩
          · clear hw'
            go_simp
          clear hK K
          refine wpAnyC_reads 7 cD4 (by kernel_rfl) (by kernel_rfl) (by kernel_rfl) (fun d _ _ _ _ h => by cases d <;> exact h) (fun oi ho K hK => ?_)
          simp only [List.getElem?_toArray, List.getElem?_cons_succ, List.getElem?_cons_zero, Option.some.injEq] at ho
          subst ho
          rw [if_pos (by kernel_rfl)]
          refine ⟨.int .i64 r1, fun w' hw' => ?_, hK _ ?_⟩
          · clear hw'
            go_simp
          clear hK K
          refine wpAnyC_reads 8 cD4 (by kernel_rfl) (by kernel_rfl) (by kernel_rfl) (fun d _ _ _ _ h => by cases d <;> exact h) (fun oi ho K hK => ?_)
          simp only [List.getElem?_toArray, List.getElem?_cons_succ, List.getElem?_cons_zero, Option.some.injEq] at ho
          subst ho
          rw [if_pos (by kernel_rfl)]
          refine ⟨errO r2, fun w' hw' => ?_, hK _ ?_⟩
          · clear hw'
            go_simp
          clear hK K
          refine wpAnyC_reads 9 cD4 (by kernel_rfl) (by kernel_rfl) (by kernel_rfl) (fun d _ _ _ _ h => by cases d <;> exact h) (fun oi ho K hK => ?_)
          simp only [List.getElem?_toArray, List.getElem?_cons_succ, List.getElem?_cons_zero, Option.some.injEq] at ho
          subst ho
          rw [if_pos (by kernel_rfl)]
          refine ⟨.int .i64 r1, fun w' hw' => ?_, hK _ ?_⟩
          · clear hw'
            go_simp
          clear hK K
          refine wpAnyC_reads 10 cD4 (by kernel_rfl) (by kernel_rfl) (by kernel_rfl) (fun d _ _ _ _ h => by cases d <;> exact h) (fun oi ho K hK => ?_)
          simp only [List.getElem?_toArray, List.getElem?_cons_succ, List.getElem?_cons_zero, Option.some.injEq] at ho
          subst ho
          rw [if_pos (by kernel_rfl)]
          refine ⟨errO r2, fun w' hw' => ?_, hK _ ?_⟩
          · clear hw'
            go_simp
          clear hK K
          refine wpAnyC_done (by kernel_rfl) ?_ _
          go_wp2_with fail
          go_meet
          exact ⟨⟨rfl, rfl⟩, hb4⟩
        · simp only [List.getElem?_toArray, List.getElem?_cons_succ, List.getElem?_cons_zero, Option.some.injEq] at ho
          subst ho
          obtain ⟨U2, hU2⟩ : ∃ U2, U2 = U1.alloc (.cells (elB.cs ⟨some ⟨P, 0, none⟩, 1, none, 0⟩) 41) := ⟨_, rfl⟩
          have bU2 : Below U1.heap.size U1 U2 := by rw [hU2]; exact (Below.refl _ _).alloc (Nat.le_refl _) _
          have hb2 := hb1.trans (bU2.mono hb1.size)
          have cD2 := cD1.on bU2 cD1.lt
          have gD2 := gD1.on bU2 gD1.lt
          have xP := xP.on bU2 xP.lt
          obtain ⟨Q, hQ⟩ : ∃ Q, Q = U1.heap.size := ⟨_, rfl⟩
          have xQ : Box U2 Q 41 (elB.cs ⟨some ⟨P, 0, none⟩, 1, none, 0⟩) := by rw [hU2, hQ]; exact Box.new _ _ _
          go_simp
          rw [← hQ, show U1.alloc (.cells #[.string ⟨#[97]⟩, .slice (some ⟨P, 0, none⟩) 1 1, .bool false, .bool false, .int .i64 0, .int .i64 0, .int .i64 0, .string ⟨#[]⟩, .string ⟨#[]⟩, .string ⟨#[]⟩, .slice none 0 0] 41) = U2 from hU2.symm]
          refine hK _ _ cD2 ?_
          clear hK K hU2 hQ
          refine wpAnyC_calls 0 (by kernel_rfl) (fun oi ho K hK => ?_)
          simp only [List.getElem?_toArray, List.getElem?_cons_zero, Option.some.injEq] at ho
          subst ho
          go_simp
          refine (base_c U2).mono ?_
          rintro r U3 ⟨sa, rfl, sS, bU3⟩
          have hb3 := hb2.trans (bU3.mono hb2.size)
          have cD3 := cD2.on bU3 cD2.lt
          have gD3 := gD2.on bU3 gD2.lt
          have xQ := xQ.on bU3 xQ.lt
          have xP := xP.on bU3 xP.lt
          go_simp
          refine hK _ _ cD3 ?_
          clear hK K
          have em := ems_box elB _ xQ ⟨txts_one _ xP, .nil _⟩
          have cK := hide (kind9_c (some ⟨Q, 0, none⟩) sa 1 2 baseT [elB] (some ⟨g, 0, none⟩) 2 (.mk (opD 3) [fieldT (tk [97]) (nmT i), fieldT (tk [97]) (nmT j)]) U3 sS em (lies_two _ _ gD3))
          rw [← unhide hR] at cK
          replace hb3 := hide hb3
          clear em
          refine wpAnyC_calls 5 (by kernel_rfl) (fun oi ho K hK => ?_)
          simp only [List.getElem?_toArray, List.getElem?_cons_succ, List.getElem?_cons_zero, Option.some.injEq] at ho
          subst ho
          go_simp
          refine (unhide cK).mono ?_
          rintro r U4 ⟨rfl, bU4⟩
          have hb4 := hide ((unhide hb3).trans (bU4.mono (unhide hb3).size))
          have cD4 := cD3.on bU4 cD3.lt
          dsimp only [KR.v, encK]
          go_simp
          refine hK _ _ cD4 ?_
          clear hK K cK
          refine wpAnyC_reads 6 cD4 (by kernel_rfl) (by kernel_rfl) (by kernel_rfl) (fun d _ _ _ _ h => by cases d <;> exact h) (fun oi ho K hK => ?_)
          simp only [List.getElem?_toArray, List.getElem?_cons_succ, List.getElem?_cons_zero, Option.some.injEq] at ho
          subst ho
          rw [if_pos (by kernel_rfl)]
          refine ⟨.tuple #[.int .i64 r1, errO r2], fun w' hw' => ?_, hK _ ?_⟩
          · clear hw'
            go_simp
          clear hK K
          refine wpAnyC_reads 7 cD4 (by kernel_rfl) (by kernel_rfl) (by kernel_rfl) (fun d _ _ _ _ h => by cases d <;> exact h) (fun oi ho K hK => ?_)
          simp only [List.getElem?_toArray, List.getElem?_cons_succ, List.getElem?_cons_zero, Option.some.injEq] at ho
          subst ho
          rw [if_pos (by kernel_rfl)]
          refine ⟨.int .i64 r1, fun w' hw' => ?_, hK _ ?_⟩
          · clear hw'
            go_simp
          clear hK K
          refine wpAnyC_reads 8 cD4 (by kernel_rfl) (by kernel_rfl) (by kernel_rfl) (fun d _ _ _ _ h => by cases d <;> exact h) (fun oi ho K hK => ?_)
          simp only [List.getElem?_toArray, List.getElem?_cons_succ, List.getElem?_cons_zero, Option.some.injEq] at ho
          subst ho
          rw [if_pos (by kernel_rfl)]
          refine ⟨errO r2, fun w' hw' => ?_, hK _ ?_⟩
          · clear hw'
            go_simp
          clear hK K
          refine wpAnyC_reads 9 cD4 (by kernel_rfl) (by kernel_rfl) (by kernel_rfl) (fun d _ _ _ _ h => by cases d <;> exact h) (fun oi ho K hK => ?_)
          simp only [List.getElem?_toArray, List.getElem?_cons_succ, List.getElem?_cons_zero, Option.some.injEq] at ho
          subst ho
          rw [if_pos (by kernel_rfl)]
          refine ⟨.int .i64 r1, fun w' hw' => ?_, hK _ ?_⟩
          · clear hw'
            go_simp
          clear hK K
          refine wpAnyC_reads 10 cD4 (by kernel_rfl) (by kernel_rfl) (by kernel_rfl) (fun d _ _ _ _ h => by cases d <;> exact h) (fun oi ho K hK => ?_)
          simp only [List.getElem?_toArray, List.getElem?_cons_succ, List.getElem?_cons_zero, Option.some.injEq] at ho
          subst ho
          rw [if_pos (by kernel_rfl)]
          refine ⟨errO r2, fun w' hw' => ?_, hK _ ?_⟩
          · clear hw'
            go_simp
          clear hK K
          refine wpAnyC_done (by kernel_rfl) ?_ _
          go_wp2_with fail
          go_meet
          exact ⟨⟨rfl, rfl⟩, hb4⟩
    case rest =>
      obtain ⟨⟨rfl, rfl⟩, hbd⟩ := hcut
      have hi01 : i = 0 ∨ i = 1 ∨ i = 2 := by omega
      have hj01 : j = 0 ∨ j = 1 ∨ j = 2 := by omega
      clear hiI hjI hi3 hj3 hne hwD hwB
      rcases hi01 with rfl | rfl | rfl <;> rcases hj01 with rfl | rfl | rfl
      · obtain ⟨rfl, rfl⟩ := Prod.mk.inj ((unhide hR).trans (show _ = ((1, 0) : KR) by decide +kernel))
        rw [show errO 0 = .nilIface from rfl]
        clear hR
        go_wp2_with fail
        go_ret
        exact ⟨rfl, tailB (unhide hbd)⟩
      · obtain ⟨rfl, rfl⟩ := Prod.mk.inj ((unhide hR).trans (show _ = ((0, 14) : KR) by decide +kernel))
        rw [show errO 14 = errV 14 from rfl]
        clear hR
        go_wp2_with fail
        refine (errIs_same 14 _).mono ?_
        rintro r w9 ⟨rfl, rfl⟩
        go_wp2_with fail
        go_ret
        exact ⟨rfl, tailB (unhide hbd)⟩
      · obtain ⟨rfl, rfl⟩ := Prod.mk.inj ((unhide hR).trans (show _ = ((0, 14) : KR) by decide +kernel))
        rw [show errO 14 = errV 14 from rfl]
        clear hR
        go_wp2_with fail
        refine (errIs_same 14 _).mono ?_
        rintro r w9 ⟨rfl, rfl⟩
        go_wp2_with fail
        go_ret
        exact ⟨rfl, tailB (unhide hbd)⟩
      · obtain ⟨rfl, rfl⟩ := Prod.mk.inj ((unhide hR).trans (show _ = ((0, 14) : KR) by decide +kernel))
        rw [show errO 14 = errV 14 from rfl]
        clear hR
        go_wp2_with fail
        refine (errIs_same 14 _).mono ?_
        rintro r w9 ⟨rfl, rfl⟩
        go_wp2_with fail
        go_ret
        exact ⟨rfl, tailB (unhide hbd)⟩
      · obtain ⟨rfl, rfl⟩ := Prod.mk.inj ((unhide hR).trans (show _ = ((0, 14) : KR) by decide +kernel))
        rw [show errO 14 = errV 14 from rfl]
        clear hR
        go_wp2_with fail
        refine (errIs_same 14 _).mono ?_
        rintro r w9 ⟨rfl, rfl⟩
        go_wp2_with fail
        go_ret
        exact ⟨rfl, tailB (unhide hbd)⟩
      · obtain ⟨rfl, rfl⟩ := Prod.mk.inj ((unhide hR).trans (show _ = ((0, 14) : KR) by decide +kernel))
        rw [show errO 14 = errV 14 from rfl]
        clear hR
        go_wp2_with fail
        refine (errIs_same 14 _).mono ?_
        rintro r w9 ⟨rfl, rfl⟩
        go_wp2_with fail
        go_ret
        exact ⟨rfl, tailB (unhide hbd)⟩
      · obtain ⟨rfl, rfl⟩ := Prod.mk.inj ((unhide hR).trans (show _ = ((0, 14) : KR) by decide +kernel))
        rw [show errO 14 = errV 14 from rfl]
        clear hR
        go_wp2_with fail
        refine (errIs_same 14 _).mono ?_
        rintro r w9 ⟨rfl, rfl⟩
        go_wp2_with fail
        go_ret
        exact ⟨rfl, tailB (unhide hbd)⟩
      · obtain ⟨rfl, rfl⟩ := Prod.mk.inj ((unhide hR).trans (show _ = ((0, 14) : KR) by decide +kernel))
        rw [show errO 14 = errV 14 from rfl]
        clear hR
        go_wp2_with fail
        refine (errIs_same 14 _).mono ?_
        rintro r w9 ⟨rfl, rfl⟩
        go_wp2_with fail
        go_ret
        exact ⟨rfl, tailB (unhide hbd)⟩
      · obtain ⟨rfl, rfl⟩ := Prod.mk.inj ((unhide hR).trans (show _ = ((0, 14) : KR) by decide +kernel))
        rw [show errO 14 = errV 14 from rfl]
        clear hR
        go_wp2_with fail
        refine (errIs_same 14 _).mono ?_
        rintro r w9 ⟨rfl, rfl⟩
        go_wp2_with fail
        go_ret
        exact ⟨rfl, tailB (unhide hbd)⟩
set_option maxRecDepth 100000 in
set_option maxHeartbeats 8000000 in
theorem ops3_1 (n0 n1 n2 : Int) (h0 : 0 ≤ n0) (h1 : n0 ≤ 255) (h2 : 0 ≤ n1) (h3 : n1 ≤ 255) (h4 : 0 ≤ n2) (h5 : n2 ≤ 255) (hm : n0 % 10 = 1) (w : World) : Calls Try.prog 3 #[.int .u8 n0, .int .u8 n1, .int .u8 n2] w fun e w' => e = .returned (.bool true) ∧ Below w.heap.size w w' := by
  have cK := hide (known6_c w)
  obtain ⟨i, hi3, hi⟩ : ∃ i : Nat, i < 3 ∧ n1 % 3 = (i : Int) := ⟨(n1 % 3).toNat, by omega, by omega⟩
  obtain ⟨j, hj3, hj⟩ : ∃ j : Nat, j < 3 ∧ n2 % 3 = (j : Int) := ⟨(n2 % 3).toNat, by omega, by omega⟩
  have hmx : Try.prog.follows .mixedOrders = true := by kernel_rfl
  go_enter Try.func3, Try.ntmps3
  go_wp2_with fail
  refine (unhide cK).mono ?_
  rintro r w1 ⟨rfl, hb1⟩
  clear cK
  obtain ⟨B, hB⟩ : ∃ B, B = w1.heap.size := ⟨_, rfl⟩
  obtain ⟨W2, hW2⟩ : ∃ W2, W2 = w1.alloc (.cells #[.string ⟨#[110]⟩, .string ⟨#[115]⟩, .string ⟨#[98]⟩] 23) := ⟨_, rfl⟩
  have x2 : Box W2 B 23 #[.string ⟨#[110]⟩, .string ⟨#[115]⟩, .string ⟨#[98]⟩] := by rw [hW2, hB]; exact Box.new _ _ _
  have b2 : Below w.heap.size w W2 := by rw [hW2]; exact hb1.alloc hb1.size _
  have hwB : w.heap.size ≤ B := by rw [hB]; exact hb1.size
  go_upto_region 6 with fail
  rw [← hB, ← hW2]
  clear hB hW2 hb1
  replace hm := hide hm
  replace hi := hide hi
  replace hj := hide hj
  have hiI : (i : Int) < 3 := by omega
  have hjI : (j : Int) < 3 := by omega
  go_cut [11] from 107 (fun v11 wc => Hid (OpsL w 4 (fieldD (tk [97]) (nmT i)) (fieldD (tk [97]) (nmT j)) v11 wc))
  case first =>
    obtain ⟨D0, hD0⟩ : ∃ D0, D0 = W2.drew := ⟨_, rfl⟩
    have bD : Below W2.heap.size W2 D0 := by rw [hD0]; exact (Below.refl _ _).drew
    have cD0 : Box D0 B 23 #[.string ⟨#[110]⟩, .string ⟨#[115]⟩, .string ⟨#[98]⟩] := x2.on bD x2.lt
    have hb0 : Below w.heap.size w D0 := b2.trans (bD.mono b2.size)
    refine wp_region_any hmx (wpAny_of_C (C := fun w' => Box w' B 23 #[.string ⟨#[110]⟩, .string ⟨#[115]⟩, .string ⟨#[98]⟩]) _ _ _ _ ?_)
    rw [show ({ heap := W2.heap, tape := W2.tape, drawn := W2.drawn + 1, os := W2.os, output := W2.output } : World) = D0 from hD0.symm]
    clear hD0 bD b2 x2
    refine wpAnyC_reads 0 cD0 (by kernel_rfl) (by kernel_rfl) (by kernel_rfl) (fun d _ _ _ _ h => by cases d <;> exact h) (fun oi ho K hK => ?_)
    simp only [List.getElem?_toArray, List.getElem?_cons_zero, Option.some.injEq] at ho
    subst ho
    rw [if_pos (by kernel_rfl)]
    refine ⟨.int .i64 4, fun w' hw' => ?_, hK _ ?_⟩
    · clear hw'
      go_simp
    clear hK K
    refine wpAnyC_reads 1 cD0 (by kernel_rfl) (by kernel_rfl) (by kernel_rfl) (fun d _ _ _ _ h => by cases d <;> exact h) (fun oi ho K hK => ?_)
    simp only [List.getElem?_toArray, List.getElem?_cons_succ, List.getElem?_cons_zero, Option.some.injEq] at ho
    subst ho
    rw [if_pos (by kernel_rfl)]
    refine ⟨.int .i64 i, fun w' hw' => ?_, hK _ ?_⟩
    · clear hw'
      go_simp
    clear hK K
    refine wpAnyC_reads 2 cD0 (by kernel_rfl) (by kernel_rfl) (by kernel_rfl) (fun d _ _ _ _ h => by cases d <;> exact h) (fun oi ho K hK => ?_)
    simp only [List.getElem?_toArray, List.getElem?_cons_succ, List.getElem?_cons_zero, Option.some.injEq] at ho
    subst ho
    rw [if_pos (by kernel_rfl)]
    refine ⟨.pointer (some ⟨B, i, none⟩), fun w' hw' => ?_, hK _ ?_⟩
    · clear hw'
      go_simp
    clear hK K
    refine wpAnyC_reads 3 cD0 (by kernel_rfl) (by kernel_rfl) (by kernel_rfl) (fun d _ _ _ _ h => by cases d <;> exact h) (fun oi ho K hK => ?_)
    simp only [List.getElem?_toArray, List.getElem?_cons_succ, List.getElem?_cons_zero, Option.some.injEq] at ho
    subst ho
    rw [if_pos (by kernel_rfl)]
    refine ⟨.string (nmT i).1, fun w' hw' => ?_, hK _ ?_⟩
    · have hs0 := nm_cell hw' i hi3
      have hs1 := nm_cell hw' j hj3
      go_simp
    clear hK K
    refine wpAnyC_reads 5 cD0 (by kernel_rfl) (by kernel_rfl) (by kernel_rfl) (fun d _ _ _ _ h => by cases d <;> exact h) (fun oi ho K hK => ?_)
    simp only [List.getElem?_toArray, List.getElem?_cons_succ, List.getElem?_cons_zero, Option.some.injEq] at ho
    subst ho
    rw [if_pos (by kernel_rfl)]
    refine ⟨.int .i64 j, fun w' hw' => ?_, hK _ ?_⟩
    · clear hw'
      go_simp
    clear hK K
    refine wpAnyC_reads 6 cD0 (by kernel_rfl) (by kernel_rfl) (by kernel_rfl) (fun d _ _ _ _ h => by cases d <;> exact h) (fun oi ho K hK => ?_)
    simp only [List.getElem?_toArray, List.getElem?_cons_succ, List.getElem?_cons_zero, Option.some.injEq] at ho
    subst ho
    rw [if_pos (by kernel_rfl)]
    refine ⟨.pointer (some ⟨B, j, none⟩), fun w' hw' => ?_, hK _ ?_⟩
    · clear hw'
      go_simp
    clear hK K
    refine wpAnyC_reads 7 cD0 (by kernel_rfl) (by kernel_rfl) (by kernel_rfl) (fun d _ _ _ _ h => by cases d <;> exact h) (fun oi ho K hK => ?_)
    simp only [List.getElem?_toArray, List.getElem?_cons_succ, List.getElem?_cons_zero, Option.some.injEq] at ho
    subst ho
    rw [if_pos (by kernel_rfl)]
    refine ⟨.string (nmT j).1, fun w' hw' => ?_, hK _ ?_⟩
    · have hs0 := nm_cell hw' i hi3
      have hs1 := nm_cell hw' j hj3
      go_simp
    clear hK K
    refine wpAnyC_two 4 10 (by kernel_rfl) (fun oi ho K hK => ?_) (fun oi ho K hK => ?_)
    · simp only [List.getElem?_toArray, List.getElem?_cons_succ, List.getElem?_cons_zero, Option.some.injEq] at ho
      subst ho
      go_simp
      refine (field8_c (tk [97]) (nmT i) D0).mono ?_
      rintro r U1 ⟨rfl, bU1⟩
      have hb1 := hb0.trans (bU1.mono hb0.size)
      have cD1 := cD0.on bU1 cD0.lt
      go_simp
      refine hK _ _ cD1 ?_
      clear hK K
      refine wpAnyC_two 8 10 (by kernel_rfl) (fun oi ho K hK => ?_) (fun oi ho K hK => ?_)
      · simp only [List.getElem?_toArray, List.getElem?_cons_succ, List.getElem?_cons_zero, Option.some.injEq] at ho
        subst ho
        go_simp
        refine (field8_c (tk [97]) (nmT j) U1).mono ?_
        rintro r U2 ⟨rfl, bU2⟩
        have hb2 := hb1.trans (bU2.mono hb1.size)
        have cD2 := cD1.on bU2 cD1.lt
        go_simp
        refine hK _ _ cD2 ?_
        clear hK K
        refine wpAnyC_two 9 10 (by kernel_rfl) (fun oi ho K hK => ?_) (fun oi ho K hK => ?_)
        · simp only [List.getElem?_toArray, List.getElem?_cons_succ, List.getElem?_cons_zero, Option.some.injEq] at ho
          subst ho
          go_simp
          refine (two7_c 4 (fieldD (tk [97]) (nmT i)) (fieldD (tk [97]) (nmT j)) U2).mono ?_
          rintro r U3 ⟨g, rfl, hg, xg, bU3⟩
          have hb3 := hb2.trans (bU3.mono hb2.size)
          have cD3 := cD2.on bU3 cD2.lt
          go_simp
          refine hK _ _ cD3 ?_
          clear hK K
          refine wpAnyC_calls 10 (by kernel_rfl) (fun oi ho K hK => ?_)
          simp only [List.getElem?_toArray, List.getElem?_cons_succ, List.getElem?_cons_zero, Option.some.injEq] at ho
          subst ho
          go_simp
          obtain ⟨U4, hU4⟩ : ∃ U4, U4 = U3.alloc (.cells zero28 28) := ⟨_, rfl⟩
          have bU4 : Below U3.heap.size U3 U4 := by rw [hU4]; exact (Below.refl _ _).alloc (Nat.le_refl _) _
          have hb4 := hb3.trans (bU4.mono hb3.size)
          have cD4 := cD3.on bU4 cD3.lt
          obtain ⟨D, hD⟩ : ∃ D, D = U3.heap.size := ⟨_, rfl⟩
          have xD4 : Box U4 D 28 zero28 := by rw [hU4, hD]; exact Box.new _ _ _
          have hwD : w.heap.size ≤ D := by rw [hD]; exact hb3.size
          have hBD : B < D := by rw [hD]; exact cD3.lt
          have hne : D ≠ g := by have := xg.lt; omega
          have xg := xg.on bU4 xg.lt
          rw [← hD, ← hU4]
          refine hK _ _ cD4 ?_
          clear hK K hU4 hD
          have hf0 := xD4.frz
          obtain ⟨z0, z1, z2, z3, z4, z5, z6⟩ := xD4.seven
          have hst := fun W' hW => store7 (D := D) (g := g) 4 xD4 xg hne (some ⟨g, 0, none⟩) W' hW
          replace hst := hide hst
          replace hb4 := hide hb4
          have z7 := hf0 0
          have z8 := hf0 1
          have z9 := hf0 2
          have z10 := hf0 3
          have z11 := hf0 4
          have z12 := hf0 5
          have z13 := hf0 6
          clear hf0
          refine wpAnyC_calls 11 (by kernel_rfl) (fun oi ho K hK => ?_)
          simp only [List.getElem?_toArray, List.getElem?_cons_succ, List.getElem?_cons_zero, Option.some.injEq] at ho
          subst ho
          go_simp
          have hq := unhide hst _ rfl
          refine hK _ _ ?_ ?_
          · have := cD4
            exact ((((((this.other _ _ (by simp only; omega)).other _ _ (by simp only; omega)).other _ _ (by simp only; omega)).other _ _ (by simp only; omega)).other _ _ (by simp only; omega)).other _ _ (by simp only; omega)).other _ _ (by simp only; omega)
          clear hK K
          refine wpAnyC_done (by kernel_rfl) ?_ _
          go_wp2_with fail
          go_meet
          exact ⟨⟨D, g, rfl, hq.1, hq.2.1, hne, hwD⟩, hq.2.2 _ _ hwD (unhide hb4)⟩
        · simp only [List.getElem?_toArray, List.getElem?_cons_succ, List.getElem?_cons_zero, Option.some.injEq] at ho
          subst ho
          go_simp
          obtain ⟨U3, hU3⟩ : ∃ U3, U3 = U2.alloc (.cells zero28 28) := ⟨_, rfl⟩
          have bU3 : Below U2.heap.size U2 U3 := by rw [hU3]; exact (Below.refl _ _).alloc (Nat.le_refl _) _
          have hb3 := hb2.trans (bU3.mono hb2.size)
          have cD3 := cD2.on bU3 cD2.lt
          obtain ⟨D, hD⟩ : ∃ D, D = U2.heap.size := ⟨_, rfl⟩
          have xD3 : Box U3 D 28 zero28 := by rw [hU3, hD]; exact Box.new _ _ _
          have hwD : w.heap.size ≤ D := by rw [hD]; exact hb2.size
          have hBD : B < D := by rw [hD]; exact cD2.lt
          rw [← hD, ← hU3]
          refine hK _ _ cD3 ?_
          clear hK K hU3 hD
          refine wpAnyC_calls 9 (by kernel_rfl) (fun oi ho K hK => ?_)
          simp only [List.getElem?_toArray, List.getElem?_cons_succ, List.getElem?_cons_zero, Option.some.injEq] at ho
          subst ho
          go_simp
          refine (two7_c 4 (fieldD (tk [97]) (nmT i)) (fieldD (tk [97]) (nmT j)) U3).mono ?_
          rintro r U4 ⟨g, rfl, hg, xg, bU4⟩
          have hne : D ≠ g := by have := xD3.lt; omega
          have hb4 := hb3.trans (bU4.mono hb3.size)
          have cD4 := cD3.on bU4 cD3.lt
          have xD4 := xD3.on bU4 xD3.lt
          go_simp
          refine hK _ _ cD4 ?_
          clear hK K
          have hf0 := xD4.frz
          obtain ⟨z0, z1, z2, z3, z4, z5, z6⟩ := xD4.seven
          have hst := fun W' hW => store7 (D := D) (g := g) 4 xD4 xg hne (some ⟨g, 0, none⟩) W' hW
          replace hst := hide hst
          replace hb4 := hide hb4
          have z7 := hf0 0
          have z8 := hf0 1
          have z9 := hf0 2
          have z10 := hf0 3
          have z11 := hf0 4
          have z12 := hf0 5
          have z13 := hf0 6
          clear hf0
          refine wpAnyC_calls 11 (by kernel_rfl) (fun oi ho K hK => ?_)
          simp only [List.getElem?_toArray, List.getElem?_cons_succ, List.getElem?_cons_zero, Option.some.injEq] at ho
          subst ho
          go_simp
          have hq := unhide hst _ rfl
          refine hK _ _ ?_ ?_
          · have := cD4
            exact ((((((this.other _ _ (by simp only; omega)).other _ _ (by simp only; omega)).other _ _ (by simp only; omega)).other _ _ (by simp only; omega)).other _ _ (by simp only; omega)).other _ _ (by simp only; omega)).other _ _ (by simp only; omega)
          clear hK K
          refine wpAnyC_done (by kernel_rfl) ?_ _
          go_wp2_with fail
          go_meet
          exact ⟨⟨D, g, rfl, hq.1, hq.2.1, hne, hwD⟩, hq.2.2 _ _ hwD (unhide hb4)⟩
      · simp only [List.getElem?_toArray, List.getElem?_cons_succ, List.getElem?_cons_zero, Option.some.injEq] at ho
        subst ho
        go_simp
        obtain ⟨U2, hU2⟩ : ∃ U2, U2 = U1.alloc (.cells zero28 28) := ⟨_, rfl⟩
        have bU2 : Below U1.heap.size U1 U2 := by rw [hU2]; exact (Below.refl _ _).alloc (Nat.le_refl _) _
        have hb2 := hb1.trans (bU2.mono hb1.size)
        have cD2 := cD1.on bU2 cD1.lt
        obtain ⟨D, hD⟩ : ∃ D, D = U1.heap.size := ⟨_, rfl⟩
        have xD2 : Box U2 D 28 zero28 := by rw [hU2, hD]; exact Box.new _ _ _
        have hwD : w.heap.size ≤ D := by rw [hD]; exact hb1.size
        have hBD : B < D := by rw [hD]; exact cD1.lt
        rw [← hD, ← hU2]
        refine hK _ _ cD2 ?_
        clear hK K hU2 hD
        refine wpAnyC_calls 8 (by kernel_rfl) (fun oi ho K hK => ?_)
        simp only [List.getElem?_toArray, List.getElem?_cons_succ, List.getElem?_cons_zero, Option.some.injEq] at ho
        subst ho
        go_simp
        refine (field8_c (tk [97]) (nmT j) U2).mono ?_
        rintro r U3 ⟨rfl, bU3⟩
        have hb3 := hb2.trans (bU3.mono hb2.size)
        have cD3 := cD2.on bU3 cD2.lt
        have xD3 := xD2.on bU3 xD2.lt
        go_simp
        refine hK _ _ cD3 ?_
        clear hK K
        refine wpAnyC_calls 9 (by kernel_rfl) (fun oi ho K hK => ?_)
        simp only [List.getElem?_toArray, List.getElem?_cons_succ, List.getElem?_cons_zero, Option.some.injEq] at ho
        subst ho
        go_simp
        refine (two7_c 4 (fieldD (tk [97]) (nmT i)) (fieldD (tk [97]) (nmT j)) U3).mono ?_
        rintro r U4 ⟨g, rfl, hg, xg, bU4⟩
        have hne : D ≠ g := by have := xD3.lt; omega
        have hb4 := hb3.trans (bU4.mono hb3.size)
        have cD4 := cD3.on bU4 cD3.lt
        have xD4 := xD3.on bU4 xD3.lt
        go_simp
        refine hK _ _ cD4 ?_
        clear hK K
        have hf0 := xD4.frz
        obtain ⟨z0, z1, z2, z3, z4, z5, z6⟩ := xD4.seven
        have hst := fun W' hW => store7 (D := D) (g := g) 4 xD4 xg hne (some ⟨g, 0, none⟩) W' hW
        replace hst := hide hst
        replace hb4 := hide hb4
        have z7 := hf0 0
        have z8 := hf0 1
        have z9 := hf0 2
        have z10 := hf0 3
        have z11 := hf0 4
        have z12 := hf0 5
        have z13 := hf0 6
        clear hf0
        refine wpAnyC_calls 11 (by kernel_rfl) (fun oi ho K hK => ?_)
        simp only [List.getElem?_toArray, List.getElem?_cons_succ, List.getElem?_cons_zero, Option.some.injEq] at ho
        subst ho
        go_simp
        have hq := unhide hst _ rfl
        refine hK _ _ ?_ ?_
        · have := cD4
          exact ((((((this.other _ _ (by simp only; omega)).other _ _ (by simp only; omega)).other _ _ (by simp only; omega)).other _ _ (by simp only; omega)).other _ _ (by simp only; omega)).other _ _ (by simp only; omega)).other _ _ (by simp only; omega)
        clear hK K
        refine wpAnyC_done (by kernel_rfl) ?_ _
        go_wp2_with fail
        go_meet
        exact ⟨⟨D, g, rfl, hq.1, hq.2.1, hne, hwD⟩, hq.2.2 _ _ hwD (unhide hb4)⟩
    · simp only [List.getElem?_toArray, List.getElem?_cons_succ, List.getElem?_cons_zero, Option.some.injEq] at ho
      subst ho
      go_simp
      obtain ⟨U1, hU1⟩ : ∃ U1, U1 = D0.alloc (.cells zero28 28) := ⟨_, rfl⟩
      have bU1 : Below D0.heap.size D0 U1 := by rw [hU1]; exact (Below.refl _ _).alloc (Nat.le_refl _) _
      have hb1 := hb0.trans (bU1.mono hb0.size)
      have cD1 := cD0.on bU1 cD0.lt
      obtain ⟨D, hD⟩ : ∃ D, D = D0.heap.size := ⟨_, rfl⟩
      have xD1 : Box U1 D 28 zero28 := by rw [hU1, hD]; exact Box.new _ _ _
      have hwD : w.heap.size ≤ D := by rw [hD]; exact hb0.size
      have hBD : B < D := by rw [hD]; exact cD0.lt
      rw [← hD, ← hU1]
      refine hK _ _ cD1 ?_
      clear hK K hU1 hD
      refine wpAnyC_calls 4 (by kernel_rfl) (fun oi ho K hK => ?_)
      simp only [List.getElem?_toArray, List.getElem?_cons_succ, List.getElem?_cons_zero, Option.some.injEq] at ho
      subst ho
      go_simp
      refine (field8_c (tk [97]) (nmT i) U1).mono ?_
      rintro r U2 ⟨rfl, bU2⟩
      have hb2 := hb1.trans (bU2.mono hb1.size)
      have cD2 := cD1.on bU2 cD1.lt
      have xD2 := xD1.on bU2 xD1.lt
      go_simp
      refine hK _ _ cD2 ?_
      clear hK K
      refine wpAnyC_calls 8 (by kernel_rfl) (fun oi ho K hK => ?_)
      simp only [List.getElem?_toArray, List.getElem?_cons_succ, List.getElem?_cons_zero, Option.some.injEq] at ho
      subst ho
      go_simp
      refine (field8_c (tk [97]) (nmT j) U2).mono ?_
      rintro r U3 ⟨rfl, bU3⟩
      have hb3 := hb2.trans (bU3.mono hb2.size)
      have cD3 := cD2.on bU3 cD2.lt
      have xD3 := xD2.on bU3 xD2.lt
      go_simp
      refine hK _ _ cD3 ?_
      clear hK K
      refine wpAnyC_calls 9 (by kernel_rfl) (fun oi ho K hK => ?_)
      simp only [List.getElem?_toArray, List.getElem?_cons_succ, List.getElem?_cons_zero, Option.some.injEq] at ho
      subst ho
      go_simp
      refine (two7_c 4 (fieldD (tk [97]) (nmT i)) (fieldD (tk [97]) (nmT j)) U3).mono ?_
      rintro r U4 ⟨g, rfl, hg, xg, bU4⟩
      have hne : D ≠ g := by have := xD3.lt; omega
      have hb4 := hb3.trans (bU4.mono hb3.size)
      have cD4 := cD3.on bU4 cD3.lt
      have xD4 := xD3.on bU4 xD3.lt
      go_simp
      refine hK _ _ cD4 ?_
      clear hK K
      have hf0 := xD4.frz
      obtain ⟨z0, z1, z2, z3, z4, z5, z6⟩ := xD4.seven
      have hst := fun W' hW => store7 (D := D) (g := g) 4 xD4 xg hne (some ⟨g, 0, none⟩) W' hW
      replace hst := hide hst
      replace hb4 := hide hb4
      have z7 := hf0 0
      have z8 := hf0 1
      have z9 := hf0 2
      have z10 := hf0 3
      have z11 := hf0 4
      have z12 := hf0 5
      have z13 := hf0 6
      clear hf0
      refine wpAnyC_calls 11 (by kernel_rfl) (fun oi ho K hK => ?_)
      simp only [List.getElem?_toArray, List.getElem?_cons_succ, List.getElem?_cons_zero, Option.some.injEq] at ho
      subst ho
      go_simp
      have hq := unhide hst _ rfl
      refine hK _ _ ?_ ?_
      · have := cD4
        exact ((((((this.other _ _ (by simp only; omega)).other _ _ (by simp only; omega)).other _ _ (by simp only; omega)).other _ _ (by simp only; omega)).other _ _ (by simp only; omega)).other _ _ (by simp only; omega)).other _ _ (by simp only; omega)
      clear hK K
      refine wpAnyC_done (by kernel_rfl) ?_ _
      go_wp2_with fail
      go_meet
      exact ⟨⟨D, g, rfl, hq.1, hq.2.1, hne, hwD⟩, hq.2.2 _ _ hwD (unhide hb4)⟩
  case rest =>
    replace hcut := unhide hcut
    obtain ⟨⟨D, g, rfl, xD, xg, hne, hwD⟩, hbw⟩ := hcut
    obtain ⟨q0, q1, q2, q3, q4, q5, q6⟩ := xD.seven
    have hf6 := xD.frz 6
    go_upto_region 9 with fail
    obtain ⟨W5, hW5⟩ : ∃ W5, W5 = wc := ⟨_, rfl⟩
    rw [← hW5] at xD xg hbw ⊢
    have x5 := xD
    have g5 := xg
    have b5 := hbw
    clear hW5 xD xg hbw
    clear q0 q1 q2 q3 q4 q5 q6 hf6
    obtain ⟨⟨r1, r2⟩, hR⟩ : ∃ R, R = kindP baseT [elB] (.mk (opD 4) [fieldT (tk [97]) (nmT i), fieldT (tk [97]) (nmT j)]) := ⟨_, rfl⟩
    replace hR := hide hR
    go_cut [12, 13] from 107 (fun v12 v13 wd => (v12 = .int .i64 r1 ∧ v13 = errO r2) ∧ Hid (Below w.heap.size w wd))
    case first =>
      obtain ⟨D0, hD0⟩ : ∃ D0, D0 = W5.drew := ⟨_, rfl⟩
      have bD : Below W5.heap.size W5 D0 := by rw [hD0]; exact (Below.refl _ _).drew
      have cD0 : Box D0 D 28 ((opD 4).cs (some ⟨g, 0, none⟩) 2 2) := x5.on bD x5.lt
      have gD0 := g5.on bD g5.lt
      have hb0 : Below w.heap.size w D0 := b5.trans (bD.mono b5.size)
      refine wp_region_any hmx (wpAny_of_C (C := fun w' => Box w' D 28 ((opD 4).cs (some ⟨g, 0, none⟩) 2 2)) _ _ _ _ ?_)
      rw [show ({ heap := W5.heap, tape := W5.tape, drawn := W5.drawn + 1, os := W5.os, output := W5.output } : World) = D0 from hD0.symm]
      clear hD0 bD b5 x5 g5
      refine wpAnyC_reads 4 cD0 (by kernel_rfl) (by kernel_rfl) (by kernel_rfl) (fun d _ _ _ _ h => by cases d <;> exact h) (fun oi ho K hK => ?_)
      simp only [List.getElem?_toArray, List.getElem?_cons_succ, List.getElem?_cons_zero, Option.some.injEq] at ho
      subst ho
      rw [if_pos (by kernel_rfl)]
      refine ⟨(opD 4).v (some ⟨g, 0, none⟩) 2 2, fun w' hw' => ?_, hK _ ?_⟩
      · obtain ⟨hs0, hs1, hs2, hs3, hs4, hs5, hs6⟩ := Box.seven hw'
        go_simp
      clear hK K
      refine wpAnyC_two 0 1 (by kernel_rfl) (fun oi ho K hK => ?_) (fun oi ho K hK => ?_)
      · simp only [List.getElem?_toArray, List.getElem?_cons_zero, Option.some.injEq] at ho
        subst ho
        go_simp
        refine (base_c D0).mono ?_
        rintro r U1 ⟨sa, rfl, sS, bU1⟩
        have hb1 := hb0.trans (bU1.mono hb0.size)
        have cD1 := cD0.on bU1 cD0.lt
        have gD1 := gD0.on bU1 gD0.lt
        go_simp
        refine hK _ _ cD1 ?_
        clear hK K
        refine wpAnyC_calls 1 (by kernel_rfl) (fun oi ho K hK => ?_)
        simp only [List.getElem?_toArray, List.getElem?_cons_succ, List.getElem?_cons_zero, Option.some.injEq] at ho
        subst ho
        obtain ⟨U2, hU2⟩ : ∃ U2, U2 = U1.alloc (.cells #[.string ⟨#[116]⟩] 9) := ⟨_, rfl⟩
        have bU2 : Below U1.heap.size U1 U2 := by rw [hU2]; exact (Below.refl _ _).alloc (Nat.le_refl _) _
        have hb2 := hb1.trans (bU2.mono hb1.size)
        have cD2 := cD1.on bU2 cD1.lt
        have gD2 := gD1.on bU2 gD1.lt
        have sS := sS.on bU2
        obtain ⟨P, hP⟩ : ∃ P, P = U1.heap.size := ⟨_, rfl⟩
        have xP : Box U2 P 9 #[.string (tk [116]).1] := by rw [hU2, hP]; exact Box.new _ _ _
        go_simp
        rw [← hP, ← hU2]
        refine hK _ _ cD2 ?_
        clear hK K hU2 hP
        refine wpAnyC_reads 2 cD2 (by kernel_rfl) (by kernel_rfl) (by kernel_rfl) (fun d _ _ _ _ h => by cases d <;> exact h) (fun oi ho K hK => ?_)
        simp only [List.getElem?_toArray, List.getElem?_cons_succ, List.getElem?_cons_zero, Option.some.injEq] at ho
        subst ho
        rw [if_pos (by kernel_rfl)]
        refine ⟨.agg #[.string ⟨#[97]⟩, .slice (some ⟨P, 0, none⟩) 1 1, .bool false, .bool false, .int .i64 0, .int .i64 0, .int .i64 0, .string ⟨#[]⟩, .string ⟨#[]⟩, .string ⟨#[]⟩, .slice none 0 0], fun w' hw' => ?_, hK _ ?_⟩
        · clear hw'
          go_simp
        clear hK K
        refine wpAnyC_calls 3 (by kernel_rfl) (fun oi ho K hK => ?_)
        simp only [List.getElem?_toArray, List.getElem?_cons_succ, List.getElem?_cons_zero, Option.some.injEq] at ho
        subst ho
        obtain ⟨U3, hU3⟩ : ∃ U3, U3 = U2.alloc (.cells (elB.cs ⟨some ⟨P, 0, none⟩, 1, none, 0⟩) 41) := ⟨_, rfl⟩
        have bU3 : Below U2.heap.size U2 U3 := by rw [hU3]; exact (Below.refl _ _).alloc (Nat.le_refl _) _
        have hb3 := hb2.trans (bU3.mono hb2.size)
        have cD3 := cD2.on bU3 cD2.lt
        have gD3 := gD2.on bU3 gD2.lt
        have sS := sS.on bU3
        have xP := xP.on bU3 xP.lt
        obtain ⟨Q, hQ⟩ : ∃ Q, Q = U2.heap.size := ⟨_, rfl⟩
        have xQ : Box U3 Q 41 (elB.cs ⟨some ⟨P, 0, none⟩, 1, none, 0⟩) := by rw [hU3, hQ]; exact Box.new _ _ _
        go_simp
        rw [← hQ, show U2.alloc (.cells #[.string ⟨#[97]⟩, .slice (some ⟨P, 0, none⟩) 1 1, .bool false, .bool false, .int .i64 0, .int .i64 0, .int .i64 0, .string ⟨#[]⟩, .string ⟨#[]⟩, .string ⟨#[]⟩, .slice none 0 0] 41) = U3 from hU3.symm]
        refine hK _ _ cD3 ?_
        clear hK K hU3 hQ
        have em := ems_box elB _ xQ ⟨txts_one _ xP, .nil _⟩
        have cK := hide (kind9_c (some ⟨Q, 0, none⟩) sa 1 2 baseT [elB] (some ⟨g, 0, none⟩) 2 (.mk (opD 4) [fieldT (tk [97]) (nmT i), fieldT (tk [97]) (nmT j)]) U3 sS em (lies_two _ _ gD3))
        rw [← unhide hR] at cK
        replace hb3 := hide hb3
        clear em
        refine wpAnyC_calls 5 (by kernel_rfl) (fun oi ho K hK => ?_)
        simp only [List.getElem?_toArray, List.getElem?_cons_succ, List.getElem?_cons_zero, Option.some.injEq] at ho
        subst ho
        go_simp
        refine (unhide cK).mono ?_
        rintro r U4 ⟨rfl, bU4⟩
        have hb4 := hide ((unhide hb3).trans (bU4.mono (unhide hb3).size))
        have cD4 := cD3.on bU4 cD3.lt
        dsimp only [KR.v, encK]
        go_simp
        refine hK _ _ cD4 ?_
        clear hK K cK
        refine wpAnyC_reads 6 cD4 (by kernel_rfl) (by kernel_rfl) (by kernel_rfl) (fun d _ _ _ _ h => by cases d <;> exact h) (fun oi ho K hK => ?_)
        simp only [List.getElem?_toArray, List.getElem?_cons_succ, List.getElem?_cons_zero, Option.some.injEq] at ho
        subst ho
        rw [if_pos (by kernel_rfl)]
        refine ⟨.tuple #[.int .i64 r1, errO r2], fun w' hw' => ?_, hK _ ?_⟩
        · clear hw'
          go_simp
        clear hK K
        refine wpAnyC_reads 7 cD4 (by kernel_rfl) (by kernel_rfl) (by kernel_rfl) (fun d _ _ _ _ h => by cases d <;> exact h) (fun oi ho K hK => ?_)
        simp only [List.getElem?_toArray, List.getElem?_cons_succ, List.getElem?_cons_zero, Option.some.injEq] at ho
        subst ho
        rw [if_pos (by kernel_rfl)]
        refine ⟨.int .i64 r1, fun w' hw' => ?_, hK _ ?_⟩
        · clear hw'
          go_simp
        clear hK K
        refine wpAnyC_reads 8 cD4 (by kernel_rfl) (by kernel_rfl) (by kernel_rfl) (fun d _ _ _ _ h => by cases d <;> exact h) (fun oi ho K hK => ?_)
        simp only [List.getElem?_toArray, List.getElem?_cons_succ, List.getElem?_cons_zero, Option.some.injEq] at ho
        subst ho
        rw [if_pos (by kernel_rfl)]
        refine ⟨errO r2, fun w' hw' => ?_, hK _ ?_⟩
        · clear hw'
          go_simp
        clear hK K
        refine wpAnyC_reads 9 cD4 (by kernel_rfl) (by kernel_rfl) (by kernel_rfl) (fun d _ _ _ _ h => by cases d <;> exact h) (fun oi ho K hK => ?_)
        simp only [List.getElem?_toArray, List.getElem?_cons_succ, List.getElem?_cons_zero, Option.some.injEq] at ho
        subst ho
        rw [if_pos (by kernel_rfl)]
        refine ⟨.int .i64 r1, fun w' hw' => ?_, hK _ ?_⟩
        · clear hw'
          go_simp
        clear hK K
        refine wpAnyC_reads 10 cD4 (by kernel_rfl) (by kernel_rfl) (by kernel_rfl) (fun d _ _ _ _ h => by cases d <;> exact h) (fun oi ho K hK => ?_)
        simp only [List.getElem?_toArray, List.getElem?_cons_succ, List.getElem?_cons_zero, Option.some.injEq] at ho
        subst ho
        rw [if_pos (by kernel_rfl)]
        refine ⟨errO r2, fun w' hw' => ?_, hK _ ?_⟩
        · clear hw'
          go_simp
        clear hK K
        refine wpAnyC_done (by kernel_rfl) ?_ _
        go_wp2_with fail
        go_meet
        exact ⟨⟨rfl, rfl⟩, hb4⟩
      · simp only [List.getElem?_toArray, List.getElem?_cons_succ, List.getElem?_cons_zero, Option.some.injEq] at ho
        subst ho
        obtain ⟨U1, hU1⟩ : ∃ U1, U1 = D0.alloc (.cells #[.string ⟨#[116]⟩] 9) := ⟨_, rfl⟩
        have bU1 : Below D0.heap.size D0 U1 := by rw [hU1]; exact (Below.refl _ _).alloc (Nat.le_refl _) _
        have hb1 := hb0.trans (bU1.mono hb0.size)
        have cD1 := cD0.on bU1 cD0.lt
        have gD1 := gD0.on bU1 gD0.lt
        obtain ⟨P, hP⟩ : ∃ P, P = D0.heap.size := ⟨_, rfl⟩
        have xP : Box U1 P 9 #[.string (tk [116]).1] := by rw [hU1, hP]; exact Box.new _ _ _
        go_simp
        rw [← hP, ← hU1]
        refine hK _ _ cD1 ?_
        clear hK K hU1 hP
        refine wpAnyC_reads 2 cD1 (by kernel_rfl) (by kernel_rfl) (by kernel_rfl) (fun d _ _ _ _ h => by cases d <;> exact h) (fun oi ho K hK => ?_)
        simp only [List.getElem?_toArray, List.getElem?_cons_succ, List.getElem?_cons_zero, Option.some.injEq] at ho
        subst ho
        rw [if_pos (by kernel_rfl)]
        refine ⟨.agg #[.string ⟨#[97]⟩, .slice (some ⟨P, 0, none⟩) 1 1, .bool false, .bool false, .int .i64 0, .int .i64 0, .int .i64 0, .string ⟨#[]⟩, .string ⟨#[]⟩, .string ⟨#[]⟩, .slice none 0 0], fun w' hw' => ?_, hK _ ?_⟩
        · clear hw'
          go_simp
        clear hK K
        refine wpAnyC_two 0 3 (by kernel_rfl) (fun oi ho K hK => ?_) (fun oi ho K hK => ?_)
        · simp only [List.getElem?_toArray, List.getElem?_cons_zero, Option.some.injEq] at ho
          subst ho
          go_simp
          refine (base_c U1).mono ?_
          rintro r U2 ⟨sa, rfl, sS, bU2⟩
          have hb2 := hb1.trans (bU2.mono hb1.size)
          have cD2 := cD1.on bU2 cD1.lt
          have gD2 := gD1.on bU2 gD1.lt
          have xP := xP.on bU2 xP.lt
          go_simp
          refine hK _ _ cD2 ?_
          clear hK K
          refine wpAnyC_calls 3 (by kernel_rfl) (fun oi ho K hK => ?_)
          simp only [List.getElem?_toArray, List.getElem?_cons_succ, List.getElem?_cons_zero, Option.some.injEq] at ho
          subst ho
          obtain ⟨U3, hU3⟩ : ∃ U3, U3 = U2.alloc (.cells (elB.cs ⟨some ⟨P, 0, none⟩, 1, none, 0⟩) 41) := ⟨_, rfl⟩
          have bU3 : Below U2.heap.size U2 U3 := by rw [hU3]; exact (Below.refl _ _).alloc (Nat.le_refl _) _
          have hb3 := hb2.trans (bU3.mono hb2.size)
          have cD3 := cD2.on bU3 cD2.lt
          have gD3 := gD2.on bU3 gD2.lt
          have sS := sS.on bU3
          have xP := xP.on bU3 xP.lt
          obtain ⟨Q, hQ⟩ : ∃ Q, Q = U2.heap.size := ⟨_, rfl⟩
          have xQ : Box U3 Q 41 (elB.cs ⟨some ⟨P, 0, none⟩, 1, none, 0⟩) := by rw [hU3, hQ]; exact Box.new _ _ _
          go_simp
          rw [← hQ, show U2.alloc (.cells #[.string ⟨#[97]⟩, .slice (some ⟨P, 0, none⟩) 1 1, .bool false, .bool false, .int .i64 0, .int .i64 0, .int .i64 0, .string ⟨#[]⟩, .string ⟨#[]⟩, .string ⟨#[]⟩, .slice none 0 0] 41) = U3 from hU3.symm]
          refine hK _ _ cD3 ?_
          clear hK K hU3 hQ
          have em := ems_box elB _ xQ ⟨txts_one _ xP, .nil _⟩
          have cK := hide (kind9_c (some ⟨Q, 0, none⟩) sa 1 2 baseT [elB] (some ⟨g, 0, none⟩) 2 (.mk (opD 4) [fieldT (tk [97]) (nmT i), fieldT (tk [97]) (nmT j)]) U3 sS em (lies_two _ _ gD3))
          rw [← unhide hR] at cK
          replace hb3 := hide hb3
          clear em
          refine wpAnyC_calls 5 (by kernel_rfl) (fun oi ho K hK => ?_)
          simp only [List.getElem?_toArray, List.getElem?_cons_succ, List.getElem?_cons_zero, Option.some.injEq] at ho
          subst ho
          go_simp
          refine (unhide cK).mono ?_
          rintro r U4 ⟨rfl, bU4⟩
          have hb4 := hide ((unhide hb3).trans (bU4.mono (unhide hb3).size))
          have cD4 := cD3.on bU4 cD3.lt
          dsimp only [KR.v, encK]
          go_simp
          refine hK _ _ cD4 ?_
          clear hK K cK
          refine wpAnyC_reads 6 cD4 (by kernel_rfl) (by kernel_rfl) (by kernel_rfl) (fun d _ _ _ _ h => by cases d <;> exact h) (fun oi ho K hK => ?_)
          simp only [List.getElem?_toArray, List.getElem?_cons_succ, List.getElem?_cons_zero, Option.some.injEq] at ho
          subst ho
          rw [if_pos (by kernel_rfl)]
          refine ⟨.tuple #[.int .i64 r1, errO r2], fun w' hw' => ?_, hK _ ?_⟩
          · clear hw'
            go_simp
          clear hK K
          refine wpAnyC_reads 7 cD4 (by kernel_rfl) (by kernel_rfl) (by kernel_rfl) (fun d _ _ _ _ h => by cases d <;> exact h) (fun oi ho K hK => ?_)
          simp only [List.getElem?_toArray, List.getElem?_cons_succ, List.getElem?_cons_zero, Option.some.injEq] at ho
          subst ho
          rw [if_pos (by kernel_rfl)]
          refine ⟨.int .i64 r1, fun w' hw' => ?_, hK _ ?_⟩
          · clear hw'
            go_simp
          clear hK K
          refine wpAnyC_reads 8 cD4 (by kernel_rfl) (by kernel_rfl) (by kernel_rfl) (fun d _ _ _ _ h => by cases d <;> exact h) (fun oi ho K hK => ?_)
          simp only [List.getElem?_toArray, List.getElem?_cons_succ, List.getElem?_cons_zero, Option.some.injEq] at ho
          subst ho
          rw [if_pos (by kernel_rfl)]
          refine ⟨errO r2, fun w' hw' => ?_, hK _ ?_⟩
          · clear hw'
            go_simp
          clear hK K
          refine wpAnyC_reads 9 cD4 (by kernel_rfl) (by kernel_rfl) (by kernel_rfl) (fun d _ _ _ _ h => by cases d <;> exact h) (fun oi ho K hK => ?_)
          simp only [List.getElem?_toArray, List.getElem?_cons_succ, List.getElem?_cons_zero, Option.some.injEq] at ho
          subst ho
          rw [if_pos (by kernel_rfl)]
          refine ⟨.int .i64 r1, fun w' hw' => ?_, hK _ ?_⟩
          · clear hw'
            go_simp
          clear hK K
          refine wpAnyC_reads 10 cD4 (by kernel_rfl) (by kernel_rfl) (by kernel_rfl) (fun d _ _ _ _ h => by cases d <;> exact h) (fun oi ho K hK => ?_)
          simp only [List.getElem?_toArray, List.getElem?_cons_succ, List.getElem?_cons_zero, Option.some.injEq] at ho
          subst ho
          rw [if_pos (by kernel_rfl)]
          refine ⟨errO r2, fun w' hw' => ?_, hK _ ?_⟩
          · clear hw'
            go_simp
          clear hK K
          refine wpAnyC_done (by kernel_rfl) ?_ _
          go_wp2_with fail
          go_meet
          exact ⟨⟨rfl, rfl⟩, hb4⟩
        · simp only [List.getElem?_toArray, List.getElem?_cons_succ, List.getElem?_cons_zero, Option.some.injEq] at ho
          subst ho
          obtain ⟨U2, hU2⟩ : ∃ U2, U2 = U1.alloc (.cells (elB.cs ⟨some ⟨P, 0, none⟩, 1, none, 0⟩) 41) := ⟨_, rfl⟩
          have bU2 : Below U1.heap.size U1 U2 := by rw [hU2]; exact (Below.refl _ _).alloc (Nat.le_refl _) _
          have hb2 := hb1.trans (bU2.mono hb1.size)
          have cD2 := cD1.on bU2 cD1.lt
          have gD2 := gD1.on bU2 gD1.lt
          have xP := xP.on bU2 xP.lt
          obtain ⟨Q, hQ⟩ : ∃ Q, Q = U1.heap.size := ⟨_, rfl⟩
          have xQ : Box U2 Q 41 (elB.cs ⟨some ⟨P, 0, none⟩, 1, none, 0⟩) := by rw [hU2, hQ]; exact Box.new _ _ _
          go_simp
          rw [← hQ, show U1.alloc (.cells #[.string ⟨#[97]⟩, .slice (some ⟨P, 0, none⟩) 1 1, .bool false, .bool false, .int .i64 0, .int .i64 0, .int .i64 0, .string ⟨#[]⟩, .string ⟨#[]⟩, .string ⟨#[]⟩, .slice none 0 0] 41) = U2 from hU2.symm]
          refine hK _ _ cD2 ?_
          clear hK K hU2 hQ
          refine wpAnyC_calls 0 (by kernel_rfl) (fun oi ho K hK => ?_)
          simp only [List.getElem?_toArray, List.getElem?_cons_zero, Option.some.injEq] at ho
          subst ho
          go_simp
          refine (base_c U2).mono ?_
          rintro r U3 ⟨sa, rfl, sS, bU3⟩
          have hb3 := hb2.trans (bU3.mono hb2.size)
          have cD3 := cD2.on bU3 cD2.lt
          have gD3 := gD2.on bU3 gD2.lt
          have xQ := xQ.on bU3 xQ.lt
          have xP := xP.on bU3 xP.lt
          go_simp
          refine hK _ _ cD3 ?_
          clear hK K
          have em := ems_box elB _ xQ ⟨txts_one _ xP, .nil _⟩
          have cK := hide (kind9_c (some ⟨Q, 0, none⟩) sa 1 2 baseT [elB] (some ⟨g, 0, none⟩) 2 (.mk (opD 4) [fieldT (tk [97]) (nmT i), fieldT (tk [97]) (nmT j)]) U3 sS em (lies_two _ _ gD3))
          rw [← unhide hR] at cK
          replace hb3 := hide hb3
          clear em
          refine wpAnyC_calls 5 (by kernel_rfl) (fun oi ho K hK => ?_)
          simp only [List.getElem?_toArray, List.getElem?_cons_succ, List.getElem?_cons_zero, Option.some.injEq] at ho
          subst ho
          go_simp
          refine (unhide cK).mono ?_
          rintro r U4 ⟨rfl, bU4⟩
          have hb4 := hide ((unhide hb3).trans (bU4.mono (unhide hb3).size))
          have cD4 := cD3.on bU4 cD3.lt
          dsimp only [KR.v, encK]
          go_simp
          refine hK _ _ cD4 ?_
          clear hK K cK
          refine wpAnyC_reads 6 cD4 (by kernel_rfl) (by kernel_rfl) (by kernel_rfl) (fun d _ _ _ _ h => by cases d <;> exact h) (fun oi ho K hK => ?_)
          simp only [List.getElem?_toArray, List.getElem?_cons_succ, List.getElem?_cons_zero, Option.some.injEq] at ho
          subst ho
          rw [if_pos (by kernel_rfl)]
          refine ⟨.tuple #[.int .i64 r1, errO r2], fun w' hw' => ?_, hK _ ?_⟩
          · clear hw'
            go_simp
          clear hK K
          refine wpAnyC_reads 7 cD4 (by kernel_rfl) (by kernel_rfl) (by kernel_rfl) (fun d _ _ _ _ h => by cases d <;> exact h) (fun oi ho K hK => ?_)
          simp only [List.getElem?_toArray, List.getElem?_cons_succ, List.getElem?_cons_zero, Option.some.injEq] at ho
          subst ho
          rw [if_pos (by kernel_rfl)]
          refine ⟨.int .i64 r1, fun w' hw' => ?_, hK _ ?_⟩
          · clear hw'
            go_simp
          clear hK K
          refine wpAnyC_reads 8 cD4 (by kernel_rfl) (by kernel_rfl) (by kernel_rfl) (fun d _ _ _ _ h => by cases d <;> exact h) (fun oi ho K hK => ?_)
          simp only [List.getElem?_toArray, List.getElem?_cons_succ, List.getElem?_cons_zero, Option.some.injEq] at ho
          subst ho
          rw [if_pos (by kernel_rfl)]
          refine ⟨errO r2, fun w' hw' => ?_, hK _ ?_⟩
          · clear hw'
            go_simp
          clear hK K
          refine wpAnyC_reads 9 cD4 (by kernel_rfl) (by kernel_rfl) (by kernel_rfl) (fun d _ _ _ _ h => by cases d <;> exact h) (fun oi ho K hK => ?_)
          simp only [List.getElem?_toArray, List.getElem?_cons_succ, List.getElem?_cons_zero, Option.some.injEq] at ho
          subst ho
          rw [if_pos (by kernel_rfl)]
          refine ⟨.int .i64 r1, fun w' hw' => ?_, hK _ ?_⟩
          · clear hw'
            go_simp
          clear hK K
          refine wpAnyC_reads 10 cD4 (by kernel_rfl) (by kernel_rfl) (by kernel_rfl) (fun d _ _ _ _ h => by cases d <;> exact h) (fun oi ho K hK => ?_)
          simp only [List.getElem?_toArray, List.getElem?_cons_succ, List.getElem?_cons_zero, Option.some.injEq] at ho
          subst ho
          rw [if_pos (by kernel_rfl)]
          refine ⟨errO r2, fun w' hw' => ?_, hK _ ?_⟩
          · clear hw'
            go_simp
          clear hK K
          refine wpAnyC_done (by kernel_rfl) ?_ _
          go_wp2_with fail
          go_meet
          exact ⟨⟨rfl, rfl⟩, hb4⟩
    case rest =>
      obtain ⟨⟨rfl, rfl⟩, hbd⟩ := hcut
      have hi01 : i = 0 ∨ i = 1 ∨ i = 2 := by omega
      have hj01 : j = 0 ∨ j = 1 ∨ j = 2 := by omega
      clear hiI hjI hi3 hj3 hne hwD hwB
      rcases hi01 with rfl | rfl | rfl <;> rcases hj01 with rfl | rfl | rfl
      · obtain ⟨rfl, rfl⟩ := Prod.mk.inj ((unhide hR).trans (show _ = ((1, 0) : KR) by decide +kernel))
        rw [show errO 0 = .nilIface from rfl]
        clear hR
        go_wp2_with fail
        go_ret
        exact ⟨rfl, tailB (unhide hbd)⟩
      · obtain ⟨rfl, rfl⟩ := Prod.mk.inj ((unhide hR).trans (show _ = ((0, 14) : KR) by decide +kernel))
        rw [show errO 14 = errV 14 from rfl]
        clear hR
        go_wp2_with fail
        refine (errIs_same 14 _).mono ?_
        rintro r w9 ⟨rfl, rfl⟩
        go_wp2_with fail
        go_ret
        exact ⟨rfl, tailB (unhide hbd)⟩
      · obtain ⟨rfl, rfl⟩ := Prod.mk.inj ((unhide hR).trans (show _ = ((0, 14) : KR) by decide +kernel))
        rw [show errO 14 = errV 14 from rfl]
        clear hR
        go_wp2_with fail
        refine (errIs_same 14 _).mono ?_
        rintro r w9 ⟨rfl, rfl⟩
        go_wp2_with fail
        go_ret
        exact ⟨rfl, tailB (unhide hbd)⟩
      · obtain ⟨rfl, rfl⟩ := Prod.mk.inj ((unhide hR).trans (show _ = ((0, 14) : KR) by decide +kernel))
        rw [show errO 14 = errV 14 from rfl]
        clear hR
        go_wp2_with fail
        refine (errIs_same 14 _).mono ?_
        rintro r w9 ⟨rfl, rfl⟩
        go_wp2_with fail
        go_ret
        exact ⟨rfl, tailB (unhide hbd)⟩
      · obtain ⟨rfl, rfl⟩ := Prod.mk.inj ((unhide hR).trans (show _ = ((0, 14) : KR) by decide +kernel))
        rw [show errO 14 = errV 14 from rfl]
        clear hR
        go_wp2_with fail
        refine (errIs_same 14 _).mono ?_
        rintro r w9 ⟨rfl, rfl⟩
        go_wp2_with fail
        go_ret
        exact ⟨rfl, tailB (unhide hbd)⟩
      · obtain ⟨rfl, rfl⟩ := Prod.mk.inj ((unhide hR).trans (show _ = ((0, 14) : KR) by decide +kernel))
        rw [show errO 14 = errV 14 from rfl]
        clear hR
        go_wp2_with fail
        refine (errIs_same 14 _).mono ?_
        rintro r w9 ⟨rfl, rfl⟩
        go_wp2_with fail
        go_ret
        exact ⟨rfl, tailB (unhide hbd)⟩
      · obtain ⟨rfl, rfl⟩ := Prod.mk.inj ((unhide hR).trans (show _ = ((0, 14) : KR) by decide +kernel))
        rw [show errO 14 = errV 14 from rfl]
        clear hR
        go_wp2_with fail
        refine (errIs_same 14 _).mono ?_
        rintro r w9 ⟨rfl, rfl⟩
        go_wp2_with fail
        go_ret
        exact ⟨rfl, tailB (unhide hbd)⟩
      · obtain ⟨rfl, rfl⟩ := Prod.mk.inj ((unhide hR).trans (show _ = ((0, 14) : KR) by decide +kernel))
        rw [show errO 14 = errV 14 from rfl]
        clear hR
        go_wp2_with fail
        refine (errIs_same 14 _).mono ?_
        rintro r w9 ⟨rfl, rfl⟩
        go_wp2_with fail
        go_ret
        exact ⟨rfl, tailB (unhide hbd)⟩
      · obtain ⟨rfl, rfl⟩ := Prod.mk.inj ((unhide hR).trans (show _ = ((0, 14) : KR) by decide +kernel))
        rw [show errO 14 = errV 14 from rfl]
        clear hR
        go_wp2_with fail
        refine (errIs_same 14 _).mono ?_
        rintro r w9 ⟨rfl, rfl⟩
        go_wp2_with fail
        go_ret
        exact ⟨rfl, tailB (unhide hbd)⟩
set_option maxRecDepth 100000 in
set_option maxHeartbeats 8000000 in
theorem ops3_2 (n0 n1 n2 : Int) (h0 : 0 ≤ n0) (h1 : n0 ≤ 255) (h2 : 0 ≤ n1) (h3 : n1 ≤ 255) (h4 : 0 ≤ n2) (h5 : n2 ≤ 255) (hm : n0 % 10 = 2) (w : World) : Calls Try.prog 3 #[.int .u8 n0, .int .u8 n1, .int .u8 n2] w fun e w' => e = .returned (.bool true) ∧ Below w.heap.size w w' := by
  have cK := hide (known6_c w)
  obtain ⟨i, hi3, hi⟩ : ∃ i : Nat, i < 3 ∧ n1 % 3 = (i : Int) := ⟨(n1 % 3).toNat, by omega, by omega⟩
  obtain ⟨j, hj3, hj⟩ : ∃ j : Nat, j < 3 ∧ n2 % 3 = (j : Int) := ⟨(n2 % 3).toNat, by omega, by omega⟩
  have hmx : Try.prog.follows .mixedOrders = true := by kernel_rfl
  go_enter Try.func3, Try.ntmps3
  go_wp2_with fail
  refine (unhide cK).mono ?_
  rintro r w1 ⟨rfl, hb1⟩
  clear cK
  obtain ⟨B, hB⟩ : ∃ B, B = w1.heap.size := ⟨_, rfl⟩
  obtain ⟨W2, hW2⟩ : ∃ W2, W2 = w1.alloc (.cells #[.string ⟨#[110]⟩, .string ⟨#[115]⟩, .string ⟨#[98]⟩] 23) := ⟨_, rfl⟩
  have x2 : Box W2 B 23 #[.string ⟨#[110]⟩, .string ⟨#[115]⟩, .string ⟨#[98]⟩] := by rw [hW2, hB]; exact Box.new _ _ _
  have b2 : Below w.heap.size w W2 := by rw [hW2]; exact hb1.alloc hb1.size _
  have hwB : w.heap.size ≤ B := by rw [hB]; exact hb1.size
  go_upto_region 6 with fail
  rw [← hB, ← hW2]
  clear hB hW2 hb1
  replace hm := hide hm
  replace hi := hide hi
  replace hj := hide hj
  have hiI : (i : Int) < 3 := by omega
  have hjI : (j : Int) < 3 := by omega
  go_cut [11] from 107 (fun v11 wc => Hid (OpsL w 5 (fieldD (tk [97]) (nmT i)) (fieldD (tk [97]) (nmT j)) v11 wc))
  case first =>
    obtain ⟨D0, hD0⟩ : ∃ D0, D0 = W2.drew := ⟨_, rfl⟩
    have bD : Below W2.heap.size W2 D0 := by rw [hD0]; exact (Below.refl _ _).drew
    have cD0 : Box D0 B 23 #[.string ⟨#[110]⟩, .string ⟨#[115]⟩, .string ⟨#[98]⟩] := x2.on bD x2.lt
    have hb0 : Below w.heap.size w D0 := b2.trans (bD.mono b2.size)
    refine wp_region_any hmx (wpAny_of_C (C := fun w' => Box w' B 23 #[.string ⟨#[110]⟩, .string ⟨#[115]⟩, .string ⟨#[98]⟩]) _ _ _ _ ?_)
    rw [show ({ heap := W2.heap, tape := W2.tape, drawn := W2.drawn + 1, os := W2.os, output := W2.output } : World) = D0 from hD0.symm]
    clear hD0 bD b2 x2
    refine wpAnyC_reads 0 cD0 (by kernel_rfl) (by kernel_rfl) (by kernel_rfl) (fun d _ _ _ _ h => by cases d <;> exact h) (fun oi ho K hK => ?_)
    simp only [List.getElem?_toArray, List.getElem?_cons_zero, Option.some.injEq] at ho
    subst ho
    rw [if_pos (by kernel_rfl)]
    refine ⟨.int .i64 5, fun w' hw' => ?_, hK _ ?_⟩
    · clear hw'
      go_simp
    clear hK K
    refine wpAnyC_reads 1 cD0 (by kernel_rfl) (by kernel_rfl) (by kernel_rfl) (fun d _ _ _ _ h => by cases d <;> exact h) (fun oi ho K hK => ?_)
    simp only [List.getElem?_toArray, List.getElem?_cons_succ, List.getElem?_cons_zero, Option.some.injEq] at ho
    subst ho
    rw [if_pos (by kernel_rfl)]
    refine ⟨.int .i64 i, fun w' hw' => ?_, hK _ ?_⟩
    · clear hw'
      go_simp
    clear hK K
    refine wpAnyC_reads 2 cD0 (by kernel_rfl) (by kernel_rfl) (by kernel_rfl) (fun d _ _ _ _ h => by cases d <;> exact h) (fun oi ho K hK => ?_)
    simp only [List.getElem?_toArray, List.getElem?_cons_succ, List.getElem?_cons_zero, Option.some.injEq] at ho
    subst ho
    rw [if_pos (by kernel_rfl)]
    refine ⟨.pointer (some ⟨B, i, none⟩), fun w' hw' => ?_, hK _ ?_⟩
    · clear hw'
      go_simp
    clear hK K
    refine wpAnyC_reads 3 cD0 (by kernel_rfl) (by kernel_rfl) (by kernel_rfl) (fun d _ _ _ _ h => by cases d <;> exact h) (fun oi ho K hK => ?_)
    simp only [List.getElem?_toArray, List.getElem?_cons_succ, List.getElem?_cons_zero, Option.some.injEq] at ho
    subst ho
    rw [if_pos (by kernel_rfl)]
    refine ⟨.string (nmT i).1, fun w' hw' => ?_, hK _ ?_⟩
    · have hs0 := nm_cell hw' i hi3
      have hs1 := nm_cell hw' j hj3
      go_simp
    clear hK K
    refine wpAnyC_reads 5 cD0 (by kernel_rfl) (by kernel_rfl) (by kernel_rfl) (fun d _ _ _ _ h => by cases d <;> exact h) (fun oi ho K hK => ?_)
    simp only [List.getElem?_toArray, List.getElem?_cons_succ, List.getElem?_cons_zero, Option.some.injEq] at ho
    subst ho
    rw [if_pos (by kernel_rfl)]
    refine ⟨.int .i64 j, fun w' hw' => ?_, hK _ ?_⟩
    · clear hw'
      go_simp
    clear hK K
    refine wpAnyC_reads 6 cD0 (by kernel_rfl) (by kernel_rfl) (by kernel_rfl) (fun d _ _ _ _ h => by cases d <;> exact h) (fun oi ho K hK => ?_)
    simp only [List.getElem?_toArray, List.getElem?_cons_succ, List.getElem?_cons_zero, Option.some.injEq] at ho
    subst ho
    rw [if_pos (by kernel_rfl)]
    refine ⟨.pointer (some ⟨B, j, none⟩), fun w' hw' => ?_, hK _ ?_⟩
    · clear hw'
      go_simp
    clear hK K
    refine wpAnyC_reads 7 cD0 (by kernel_rfl) (by kernel_rfl) (by kernel_rfl) (fun d _ _ _ _ h => by cases d <;> exact h) (fun oi ho K hK => ?_)
    simp only [List.getElem?_toArray, List.getElem?_cons_succ, List.getElem?_cons_zero, Option.some.injEq] at ho
    subst ho
    rw [if_pos (by kernel_rfl)]
    refine ⟨.string (nmT j).1, fun w' hw' => ?_, hK _ ?_⟩
    · have hs0 := nm_cell hw' i hi3
      have hs1 := nm_cell hw' j hj3
      go_simp
    clear hK K
    refine wpAnyC_two 4 10 (by kernel_rfl) (fun oi ho K hK => ?_) (fun oi ho K hK => ?_)
    · simp only [List.getElem?_toArray, List.getElem?_cons_succ, List.getElem?_cons_zero, Option.some.injEq] at ho
      subst ho
      go_simp
      refine (field8_c (tk [97]) (nmT i) D0).mono ?_
      rintro r U1 ⟨rfl, bU1⟩
      have hb1 := hb0.trans (bU1.mono hb0.size)
      have cD1 := cD0.on bU1 cD0.lt
      go_simp
      refine hK _ _ cD1 ?_
      clear hK K
      refine wpAnyC_two 8 10 (by kernel_rfl) (fun oi ho K hK => ?_) (fun oi ho K hK => ?_)
      · simp only [List.getElem?_toArray, List.getElem?_cons_succ, List.getElem?_cons_zero, Option.some.injEq] at ho
        subst ho
        go_simp
        refine (field8_c (tk [97]) (nmT j) U1).mono ?_
        rintro r U2 ⟨rfl, bU2⟩
        have hb2 := hb1.trans (bU2.mono hb1.size)
        have cD2 := cD1.on bU2 cD1.lt
        go_simp
        refine hK _ _ cD2 ?_
        clear hK K
        refine wpAnyC_two 9 10 (by kernel_rfl) (fun oi ho K hK => ?_) (fun oi ho K hK => ?_)
        · simp only [List.getElem?_toArray, List.getElem?_cons_succ, List.getElem?_cons_zero, Option.some.injEq] at ho
          subst ho
          go_simp
          refine (two7_c 5 (fieldD (tk [97]) (nmT i)) (fieldD (tk [97]) (nmT j)) U2).mono ?_
          rintro r U3 ⟨g, rfl, hg, xg, bU3⟩
          have hb3 := hb2.trans (bU3.mono hb2.size)
          have cD3 := cD2.on bU3 cD2.lt
          go_simp
          refine hK _ _ cD3 ?_
          clear hK K
          refine wpAnyC_calls 10 (by kernel_rfl) (fun oi ho K hK => ?_)
          simp only [List.getElem?_toArray, List.getElem?_cons_succ, List.getElem?_cons_zero, Option.some.injEq] at ho
          subst ho
          go_simp
          obtain ⟨U4, hU4⟩ : ∃ U4, U4 = U3.alloc (.cells zero28 28) := ⟨_, rfl⟩
          have bU4 : Below U3.heap.size U3 U4 := by rw [hU4]; exact (Below.refl _ _).alloc (Nat.le_refl _) _
          have hb4 := hb3.trans (bU4.mono hb3.size)
          have cD4 := cD3.on bU4 cD3.lt
          obtain ⟨D, hD⟩ : ∃ D, D = U3.heap.size := ⟨_, rfl⟩
          have xD4 : Box U4 D 28 zero28 := by rw [hU4, hD]; exact Box.new _ _ _
          have hwD : w.heap.size ≤ D := by rw [hD]; exact hb3.size
          have hBD : B < D := by rw [hD]; exact cD3.lt
          have hne : D ≠ g := by have := xg.lt; omega
          have xg := xg.on bU4 xg.lt
          rw [← hD, ← hU4]
          refine hK _ _ cD4 ?_
          clear hK K hU4 hD
          have hf0 := xD4.frz
          obtain ⟨z0, z1, z2, z3, z4, z5, z6⟩ := xD4.seven
          have hst := fun W' hW => store7 (D := D) (g := g) 5 xD4 xg hne (some ⟨g, 0, none⟩) W' hW
          replace hst := hide hst
          replace hb4 := hide hb4
          have z7 := hf0 0
          have z8 := hf0 1
          have z9 := hf0 2
          have z10 := hf0 3
          have z11 := hf0 4
          have z12 := hf0 5
          have z13 := hf0 6
          clear hf0
          refine wpAnyC_calls 11 (by kernel_rfl) (fun oi ho K hK => ?_)
          simp only [List.getElem?_toArray, List.getElem?_cons_succ, List.getElem?_cons_zero, Option.some.injEq] at ho
          subst ho
          go_simp
          have hq := unhide hst _ rfl
          refine hK _ _ ?_ ?_
          · have := cD4
            exact ((((((this.other _ _ (by simp only; omega)).other _ _ (by simp only; omega)).other _ _ (by simp only; omega)).other _ _ (by simp only; omega)).other _ _ (by simp only; omega)).other _ _ (by simp only; omega)).other _ _ (by simp only; omega)
          clear hK K
          refine wpAnyC_done (by kernel_rfl) ?_ _
          go_wp2_with fail
          go_meet
          exact ⟨⟨D, g, rfl, hq.1, hq.2.1, hne, hwD⟩, hq.2.2 _ _ hwD (unhide hb4)⟩
        · simp only [List.getElem?_toArray, List.getElem?_cons_succ, List.getElem?_cons_zero, Option.some.injEq] at ho
          subst ho
          go_simp
          obtain ⟨U3, hU3⟩ : ∃ U3, U3 = U2.alloc (.cells zero28 28) := ⟨_, rfl⟩
          have bU3 : Below U2.heap.size U2 U3 := by rw [hU3]; exact (Below.refl _ _).alloc (Nat.le_refl _) _
          have hb3 := hb2.trans (bU3.mono hb2.size)
          have cD3 := cD2.on bU3 cD2.lt
          obtain ⟨D, hD⟩ : ∃ D, D = U2.heap.size := ⟨_, rfl⟩
          have xD3 : Box U3 D 28 zero28 := by rw [hU3, hD]; exact Box.new _ _ _
          have hwD : w.heap.size ≤ D := by rw [hD]; exact hb2.size
          have hBD : B < D := by rw [hD]; exact cD2.lt
          rw [← hD, ← hU3]
          refine hK _ _ cD3 ?_
          clear hK K hU3 hD
          refine wpAnyC_calls 9 (by kernel_rfl) (fun oi ho K hK => ?_)
          simp only [List.getElem?_toArray, List.getElem?_cons_succ, List.getElem?_cons_zero, Option.some.injEq] at ho
          subst ho
          go_simp
          refine (two7_c 5 (fieldD (tk [97]) (nmT i)) (fieldD (tk [97]) (nmT j)) U3).mono ?_
          rintro r U4 ⟨g, rfl, hg, xg, bU4⟩
          have hne : D ≠ g := by have := xD3.lt; omega
          have hb4 := hb3.trans (bU4.mono hb3.size)
          have cD4 := cD3.on bU4 cD3.lt
          have xD4 := xD3.on bU4 xD3.lt
          go_simp
          refine hK _ _ cD4 ?_
          clear hK K
          have hf0 := xD4.frz
          obtain ⟨z0, z1, z2, z3, z4, z5, z6⟩ := xD4.seven
          have hst := fun W' hW => store7 (D := D) (g := g) 5 xD4 xg hne (some ⟨g, 0, none⟩) W' hW
          replace hst := hide hst
          replace hb4 := hide hb4
          have z7 := hf0 0
          have z8 := hf0 1
          have z9 := hf0 2
          have z10 := hf0 3
          have z11 := hf0 4
          have z12 := hf0 5
          have z13 := hf0 6
          clear hf0
          refine wpAnyC_calls 11 (by kernel_rfl) (fun oi ho K hK => ?_)
          simp only [List.getElem?_toArray, List.getElem?_cons_succ, List.getElem?_cons_zero, Option.some.injEq] at ho
          subst ho
          go_simp
          have hq := unhide hst _ rfl
          refine hK _ _ ?_ ?_
          · have := cD4
            exact ((((((this.other _ _ (by simp only; omega)).other _ _ (by simp only; omega)).other _ _ (by simp only; omega)).other _ _ (by simp only; omega)).other _ _ (by simp only; omega)).other _ _ (by simp only; omega)).other _ _ (by simp only; omega)
          clear hK K
          refine wpAnyC_done (by kernel_rfl) ?_ _
          go_wp2_with fail
          go_meet
          exact ⟨⟨D, g, rfl, hq.1, hq.2.1, hne, hwD⟩, hq.2.2 _ _ hwD (unhide hb4)⟩
      · simp only [List.getElem?_toArray, List.getElem?_cons_succ, List.getElem?_cons_zero, Option.some.injEq] at ho
        subst ho
        go_simp
        obtain ⟨U2, hU2⟩ : ∃ U2, U2 = U1.alloc (.cells zero28 28) := ⟨_, rfl⟩
        have bU2 : Below U1.heap.size U1 U2 := by rw [hU2]; exact (Below.refl _ _).alloc (Nat.le_refl _) _
        have hb2 := hb1.trans (bU2.mono hb1.size)
        have cD2 := cD1.on bU2 cD1.lt
        obtain ⟨D, hD⟩ : ∃ D, D = U1.heap.size := ⟨_, rfl⟩
        have xD2 : Box U2 D 28 zero28 := by rw [hU2, hD]; exact Box.new _ _ _
        have hwD : w.heap.size ≤ D := by rw [hD]; exact hb1.size
        have hBD : B < D := by rw [hD]; exact cD1.lt
        rw [← hD, ← hU2]
        refine hK _ _ cD2 ?_
        clear hK K hU2 hD
        refine wpAnyC_calls 8 (by kernel_rfl) (fun oi ho K hK => ?_)
        simp only [List.getElem?_toArray, List.getElem?_cons_succ, List.getElem?_cons_zero, Option.some.injEq] at ho
        subst ho
        go_simp
        refine (field8_c (tk [97]) (nmT j) U2).mono ?_
        rintro r U3 ⟨rfl, bU3⟩
        have hb3 := hb2.trans (bU3.mono hb2.size)
        have cD3 := cD2.on bU3 cD2.lt
        have xD3 := xD2.on bU3 xD2.lt
        go_simp
        refine hK _ _ cD3 ?_
        clear hK K
        refine wpAnyC_calls 9 (by kernel_rfl) (fun oi ho K hK => ?_)
        simp only [List.getElem?_toArray, List.getElem?_cons_succ, List.getElem?_cons_zero, Option.some.injEq] at ho
        subst ho
        go_simp
        refine (two7_c 5 (fieldD (tk [97]) (nmT i)) (fieldD (tk [97]) (nmT j)) U3).mono ?_
        rintro r U4 ⟨g, rfl, hg, xg, bU4⟩
        have hne : D ≠ g := by have := xD3.lt; omega
        have hb4 := hb3.trans (bU4.mono hb3.size)
        have cD4 := cD3.on bU4 cD3.lt
        have xD4 := xD3.on bU4 xD3.lt
        go_simp
        refine hK _ _ cD4 ?_
        clear hK K
        have hf0 := xD4.frz
        obtain ⟨z0, z1, z2, z3, z4, z5, z6⟩ := xD4.seven
        have hst := fun W' hW => store7 (D := D) (g := g) 5 xD4 xg hne (some ⟨g, 0, none⟩) W' hW
        replace hst := hide hst
        replace hb4 := hide hb4
        have z7 := hf0 0
        have z8 := hf0 1
        have z9 := hf0 2
        have z10 := hf0 3
        have z11 := hf0 4
        have z12 := hf0 5
        have z13 := hf0 6
        clear hf0
        refine wpAnyC_calls 11 (by kernel_rfl) (fun oi ho K hK => ?_)
        simp only [List.getElem?_toArray, List.getElem?_cons_succ, List.getElem?_cons_zero, Option.some.injEq] at ho
        subst ho
        go_simp
        have hq := unhide hst _ rfl
        refine hK _ _ ?_ ?_
        · have := cD4
          exact ((((((this.other _ _ (by simp only; omega)).other _ _ (by simp only; omega)).other _ _ (by simp only; omega)).other _ _ (by simp only; omega)).other _ _ (by simp only; omega)).other _ _ (by simp only; omega)).other _ _ (by simp only; omega)
        clear hK K
        refine wpAnyC_done (by kernel_rfl) ?_ _
        go_wp2_with fail
        go_meet
        exact ⟨⟨D, g, rfl, hq.1, hq.2.1, hne, hwD⟩, hq.2.2 _ _ hwD (unhide hb4)⟩
    · simp only [List.getElem?_toArray, List.getElem?_cons_succ, List.getElem?_cons_zero, Option.some.injEq] at ho
      subst ho
      go_simp
      obtain ⟨U1, hU1⟩ : ∃ U1, U1 = D0.alloc (.cells zero28 28) := ⟨_, rfl⟩
      have bU1 : Below D0.heap.size D0 U1 := by rw [hU1]; exact (Below.refl _ _).alloc (Nat.le_refl _) _
      have hb1 := hb0.trans (bU1.mono hb0.size)
      have cD1 := cD0.on bU1 cD0.lt
      obtain ⟨D, hD⟩ : ∃ D, D = D0.heap.size := ⟨_, rfl⟩
      have xD1 : Box U1 D 28 zero28 := by rw [hU1, hD]; exact Box.new _ _ _
      have hwD : w.heap.size ≤ D := by rw [hD]; exact hb0.size
      have hBD : B < D := by rw [hD]; exact cD0.lt
      rw [← hD, ← hU1]
      refine hK _ _ cD1 ?_
      clear hK K hU1 hD
      refine wpAnyC_calls 4 (by kernel_rfl) (fun oi ho K hK => ?_)
      simp only [List.getElem?_toArray, List.getElem?_cons_succ, List.getElem?_cons_zero, Option.some.injEq] at ho
      subst ho
      go_simp
      refine (field8_c (tk [97]) (nmT i) U1).mono ?_
      rintro r U2 ⟨rfl, bU2⟩
      have hb2 := hb1.trans (bU2.mono hb1.size)
      have cD2 := cD1.on bU2 cD1.lt
      have xD2 := xD1.on bU2 xD1.lt
      go_simp
      refine hK _ _ cD2 ?_
      clear hK K
      refine wpAnyC_calls 8 (by kernel_rfl) (fun oi ho K hK => ?_)
      simp only [List.getElem?_toArray, List.getElem?_cons_succ, List.getElem?_cons_zero, Option.some.injEq] at ho
      subst ho
      go_simp
      refine (field8_c (tk [97]) (nmT j) U2).mono ?_
      rintro r U3 ⟨rfl, bU3⟩
      have hb3 := hb2.trans (bU3.mono hb2.size)
      have cD3 := cD2.on bU3 cD2.lt
      have xD3 := xD2.on bU3 xD2.lt
      go_simp
      refine hK _ _ cD3 ?_
      clear hK K
      refine wpAnyC_calls 9 (by kernel_rfl) (fun oi ho K hK => ?_)
      simp only [List.getElem?_toArray, List.getElem?_cons_succ, List.getElem?_cons_zero, Option.some.injEq] at ho
      subst ho
      go_simp
      refine (two7_c 5 (fieldD (tk [97]) (nmT i)) (fieldD (tk [97]) (nmT j)) U3).mono ?_
      rintro r U4 ⟨g, rfl, hg, xg, bU4⟩
      have hne : D ≠ g := by have := xD3.lt; omega
      have hb4 := hb3.trans (bU4.mono hb3.size)
      have cD4 := cD3.on bU4 cD3.lt
      have xD4 := xD3.on bU4 xD3.lt
      go_simp
      refine hK _ _ cD4 ?_
      clear hK K
      have hf0 := xD4.frz
      obtain ⟨z0, z1, z2, z3, z4, z5, z6⟩ := xD4.seven
      have hst := fun W' hW => store7 (D := D) (g := g) 5 xD4 xg hne (some ⟨g, 0, none⟩) W' hW
      replace hst := hide hst
      replace hb4 := hide hb4
      have z7 := hf0 0
      have z8 := hf0 1
      have z9 := hf0 2
      have z10 := hf0 3
      have z11 := hf0 4
      have z12 := hf0 5
      have z13 := hf0 6
      clear hf0
      refine wpAnyC_calls 11 (by kernel_rfl) (fun oi ho K hK => ?_)
      simp only [List.getElem?_toArray, List.getElem?_cons_succ, List.getElem?_cons_zero, Option.some.injEq] at ho
      subst ho
      go_simp
      have hq := unhide hst _ rfl
      refine hK _ _ ?_ ?_
      · have := cD4
        exact ((((((this.other _ _ (by simp only; omega)).other _ _ (by simp only; omega)).other _ _ (by simp only; omega)).other _ _ (by simp only; omega)).other _ _ (by simp only; omega)).other _ _ (by simp only; omega)).other _ _ (by simp only; omega)
      clear hK K
      refine wpAnyC_done (by kernel_rfl) ?_ _
      go_wp2_with fail
      go_meet
      exact ⟨⟨D, g, rfl, hq.1, hq.2.1, hne, hwD⟩, hq.2.2 _ _ hwD (unhide hb4)⟩
  case rest =>
    replace hcut := unhide hcut
    obtain ⟨⟨D, g, rfl, xD, xg, hne, hwD⟩, hbw⟩ := hcut
    obtain ⟨q0, q1, q2, q3, q4, q5, q6⟩ := xD.seven
    have hf6 := xD.frz 6
    go_upto_region 9 with fail
    obtain ⟨W5, hW5⟩ : ∃ W5, W5 = wc := ⟨_, rfl⟩
    rw [← hW5] at xD xg hbw ⊢
    have x5 := xD
    have g5 := xg
    have b5 := hbw
    clear hW5 xD xg hbw
    clear q0 q1 q2 q3 q4 q5 q6 hf6
    obtain ⟨⟨r1, r2⟩, hR⟩ : ∃ R, R = kindP baseT [elB] (.mk (opD 5) [fieldT (tk [97]) (nmT i), fieldT (tk [97]) (nmT j)]) := ⟨_, rfl⟩
    replace hR := hide hR
    go_cut [12, 13] from 107 (fun v12 v13 wd => (v12 = .int .i64 r1 ∧ v13 = errO r2) ∧ Hid (Below w.heap.size w wd))
    case first =>
      obtain ⟨D0, hD0⟩ : ∃ D0, D0 = W5.drew := ⟨_, rfl⟩
      have bD : Below W5.heap.size W5 D0 := by rw [hD0]; exact (Below.refl _ _).drew
      have cD0 : Box D0 D 28 ((opD 5).cs (some ⟨g, 0, none⟩) 2 2) := x5.on bD x5.lt
      have gD0 := g5.on bD g5.lt
      have hb0 : Below w.heap.size w D0 := b5.trans (bD.mono b5.size)
      refine wp_region_any hmx (wpAny_of_C (C := fun w' => Box w' D 28 ((opD 5).cs (some ⟨g, 0, none⟩) 2 2)) _ _ _ _ ?_)
      rw [show ({ heap := W5.heap, tape := W5.tape, drawn := W5.drawn + 1, os := W5.os, output := W5.output } : World) = D0 from hD0.symm]
      clear hD0 bD b5 x5 g5
      refine wpAnyC_reads 4 cD0 (by kernel_rfl) (by kernel_rfl) (by kernel_rfl) (fun d _ _ _ _ h => by cases d <;> exact h) (fun oi ho K hK => ?_)
      simp only [List.getElem?_toArray, List.getElem?_cons_succ, List.getElem?_cons_zero, Option.some.injEq] at ho
      subst ho
      rw [if_pos (by kernel_rfl)]
      refine ⟨(opD 5).v (some ⟨g, 0, none⟩) 2 2, fun w' hw' => ?_, hK _ ?_⟩
      · obtain ⟨hs0, hs1, hs2, hs3, hs4, hs5, hs6⟩ := Box.seven hw'
        go_simp
      clear hK K
      refine wpAnyC_two 0 1 (by kernel_rfl) (fun oi ho K hK => ?_) (fun oi ho K hK => ?_)
      · simp only [List.getElem?_toArray, List.getElem?_cons_zero, Option.some.injEq] at ho
        subst ho
        go_simp
        refine (base_c D0).mono ?_
        rintro r U1 ⟨sa, rfl, sS, bU1⟩
        have hb1 := hb0.trans (bU1.mono hb0.size)
        have cD1 := cD0.on bU1 cD0.lt
        have gD1 := gD0.on bU1 gD0.lt
        go_simp
        refine hK _ _ cD1 ?_
        clear hK K
        refine wpAnyC_calls 1 (by kernel_rfl) (fun oi ho K hK => ?_)
        simp only [List.getElem?_toArray, List.getElem?_cons_succ, List.getElem?_cons_zero, Option.some.injEq] at ho
        subst ho
        obtain ⟨U2, hU2⟩ : ∃ U2, U2 = U1.alloc (.cells #[.string ⟨#[116]⟩] 9) := ⟨_, rfl⟩
        have bU2 : Below U1.heap.size U1 U2 := by rw [hU2]; exact (Below.refl _ _).alloc (Nat.le_refl _) _
        have hb2 := hb1.trans (bU2.mono hb1.size)
        have cD2 := cD1.on bU2 cD1.lt
        have gD2 := gD1.on bU2 gD1.lt
        have sS := sS.on bU2
        obtain ⟨P, hP⟩ : ∃ P, P = U1.heap.size := ⟨_, rfl⟩
        have xP : Box U2 P 9 #[.string (tk [116]).1] := by rw [hU2, hP]; exact Box.new _ _ _
        go_simp
        rw [← hP, ← hU2]
        refine hK _ _ cD2 ?_
        clear hK K hU2 hP
        refine wpAnyC_reads 2 cD2 (by kernel_rfl) (by kernel_rfl) (by kernel_rfl) (fun d _ _ _ _ h => by cases d <;> exact h) (fun oi ho K hK => ?_)
        simp only [List.getElem?_toArray, List.getElem?_cons_succ, List.getElem?_cons_zero, Option.some.injEq] at ho
        subst ho
        rw [if_pos (by kernel_rfl)]
        refine ⟨.agg #[.string ⟨#[97]⟩, .slice (some ⟨P, 0, none⟩) 1 1, .bool false, .bool false, .int .i64 0, .int .i64 0, .int .i64 0, .string ⟨#[]⟩, .string ⟨#[]⟩, .string ⟨#[]⟩, .slice none 0 0], fun w' hw' => ?_, hK _ ?_⟩
        · clear hw'
          go_simp
        clear hK K
        refine wpAnyC_calls 3 (by kernel_rfl) (fun oi ho K hK => ?_)
        simp only [List.getElem?_toArray, List.getElem?_cons_succ, List.getElem?_cons_zero, Option.some.injEq] at ho
        subst ho
        obtain ⟨U3, hU3⟩ : ∃ U3, U3 = U2.alloc (.cells (elB.cs ⟨some ⟨P, 0, none⟩, 1, none, 0⟩) 41) := ⟨_, rfl⟩
        have bU3 : Below U2.heap.size U2 U3 := by rw [hU3]; exact (Below.refl _ _).alloc (Nat.le_refl _) _
        have hb3 := hb2.trans (bU3.mono hb2.size)
        have cD3 := cD2.on bU3 cD2.lt
        have gD3 := gD2.on bU3 gD2.lt
        have sS := sS.on bU3
        have xP := xP.on bU3 xP.lt
        obtain ⟨Q, hQ⟩ : ∃ Q, Q = U2.heap.size := ⟨_, rfl⟩
        have xQ : Box U3 Q 41 (elB.cs ⟨some ⟨P, 0, none⟩, 1, none, 0⟩) := by rw [hU3, hQ]; exact Box.new _ _ _
        go_simp
        rw [← hQ, show U2.alloc (.cells #[.string ⟨#[97]⟩, .slice (some ⟨P, 0, none⟩) 1 1, .bool false, .bool false, .int .i64 0, .int .i64 0, .int .i64 0, .string ⟨#[]⟩, .string ⟨#[]⟩, .string ⟨#[]⟩, .slice none 0 0] 41) = U3 from hU3.symm]
        refine hK _ _ cD3 ?_
        clear hK K hU3 hQ
        have em := ems_box elB _ xQ ⟨txts_one _ xP, .nil _⟩
        have cK := hide (kind9_c (some ⟨Q, 0, none⟩) sa 1 2 baseT [elB] (some ⟨g, 0, none⟩) 2 (.mk (opD 5) [fieldT (tk [97]) (nmT i), fieldT (tk [97]) (nmT j)]) U3 sS em (lies_two _ _ gD3))
        rw [← unhide hR] at cK
        replace hb3 := hide hb3
        clear em
        refine wpAnyC_calls 5 (by kernel_rfl) (fun oi ho K hK => ?_)
        simp only [List.getElem?_toArray, List.getElem?_cons_succ, List.getElem?_cons_zero, Option.some.injEq] at ho
        subst ho
        go_simp
        refine (unhide cK).mono ?_
        rintro r U4 ⟨rfl, bU4⟩
        have hb4 := hide ((unhide hb3).trans (bU4.mono (unhide hb3).size))
        have cD4 := cD3.on bU4 cD3.lt
        dsimp only [KR.v, encK]
        go_simp
        refine hK _ _ cD4 ?_
        clear hK K cK
        refine wpAnyC_reads 6 cD4 (by kernel_rfl) (by kernel_rfl) (by kernel_rfl) (fun d _ _ _ _ h => by cases d <;> exact h) (fun oi ho K hK => ?_)
        simp only [List.getElem?_toArray, List.getElem?_cons_succ, List.getElem?_cons_zero, Option.some.injEq] at ho
        subst ho
        rw [if_pos (by kernel_rfl)]
        refine ⟨.tuple #[.int .i64 r1, errO r2], fun w' hw' => ?_, hK _ ?_⟩
        · clear hw'
          go_simp
        clear hK K
        refine wpAnyC_reads 7 cD4 (by kernel_rfl) (by kernel_rfl) (by kernel_rfl) (fun d _ _ _ _ h => by cases d <;> exact h) (fun oi ho K hK => ?_)
        simp only [List.getElem?_toArray, List.getElem?_cons_succ, List.getElem?_cons_zero, Option.some.injEq] at ho
        subst ho
        rw [if_pos (by kernel_rfl)]
        refine ⟨.int .i64 r1, fun w' hw' => ?_, hK _ ?_⟩
        · clear hw'
          go_simp
        clear hK K
        refine wpAnyC_reads 8 cD4 (by kernel_rfl) (by kernel_rfl) (by kernel_rfl) (fun d _ _ _ _ h => by cases d <;> exact h) (fun oi ho K hK => ?_)
        simp only [List.getElem?_toArray, List.getElem?_cons_succ, List.getElem?_cons_zero, Option.some.injEq] at ho
        subst ho
        rw [if_pos (by kernel_rfl)]
        refine ⟨errO r2, fun w' hw' => ?_, hK _ ?_⟩
        · clear hw'
          go_simp
        clear hK K
        refine wpAnyC_reads 9 cD4 (by kernel_rfl) (by kernel_rfl) (by kernel_rfl) (fun d _ _ _ _ h => by cases d <;> exact h) (fun oi ho K hK => ?_)
        simp only [List.getElem?_toArray, List.getElem?_cons_succ, List.getElem?_cons_zero, Option.some.injEq] at ho
        subst ho
        rw [if_pos (by kernel_rfl)]
        refine ⟨.int .i64 r1, fun w' hw' => ?_, hK _ ?_⟩
        · clear hw'
          go_simp
        clear hK K
        refine wpAnyC_reads 10 cD4 (by kernel_rfl) (by kernel_rfl) (by kernel_rfl) (fun d _ _ _ _ h => by cases d <;> exact h) (fun oi ho K hK => ?_)
        simp only [List.getElem?_toArray, List.getElem?_cons_succ, List.getElem?_cons_zero, Option.some.injEq] at ho
        subst ho
        rw [if_pos (by kernel_rfl)]
        refine ⟨errO r2, fun w' hw' => ?_, hK _ ?_⟩
        · clear hw'
          go_simp
        clear hK K
        refine wpAnyC_done (by kernel_rfl) ?_ _
        go_wp2_with fail
        go_meet
        exact ⟨⟨rfl, rfl⟩, hb4⟩
      · simp only [List.getElem?_toArray, List.getElem?_cons_succ, List.getElem?_cons_zero, Option.some.injEq] at ho
        subst ho
        obtain ⟨U1, hU1⟩ : ∃ U1, U1 = D0.alloc (.cells #[.string ⟨#[116]⟩] 9) := ⟨_, rfl⟩
        have bU1 : Below D0.heap.size D0 U1 := by rw [hU1]; exact (Below.refl _ _).alloc (Nat.le_refl _) _
        have hb1 := hb0.trans (bU1.mono hb0.size)
        have cD1 := cD0.on bU1 cD0.lt
        have gD1 := gD0.on bU1 gD0.lt
        obtain ⟨P, hP⟩ : ∃ P, P = D0.heap.size := ⟨_, rfl⟩
        have xP : Box U1 P 9 #[.string (tk [116]).1] := by rw [hU1, hP]; exact Box.new _ _ _
        go_simp
        rw [← hP, ← hU1]
        refine hK _ _ cD1 ?_
        clear hK K hU1 hP
        refine wpAnyC_reads 2 cD1 (by kernel_rfl) (by kernel_rfl) (by kernel_rfl) (fun d _ _ _ _ h => by cases d <;> exact h) (fun oi ho K hK => ?_)
        simp only [List.getElem?_toArray, List.getElem?_cons_succ, List.getElem?_cons_zero, Option.some.injEq] at ho
        subst ho
        rw [if_pos (by kernel_rfl)]
        refine ⟨.agg #[.string ⟨#[97]⟩, .slice (some ⟨P, 0, none⟩) 1 1, .bool false, .bool false, .int .i64 0, .int .i64 0, .int .i64 0, .string ⟨#[]⟩, .string ⟨#[]⟩, .string ⟨#[]⟩, .slice none 0 0], fun w' hw' => ?_, hK _ ?_⟩
        · clear hw'
          go_simp
        clear hK K
        refine wpAnyC_two 0 3 (by kernel_rfl) (fun oi ho K hK => ?_) (fun oi ho K hK => ?_)
        · simp only [List.getElem?_toArray, List.getElem?_cons_zero, Option.some.injEq] at ho
          subst ho
          go_simp
          refine (base_c U1).mono ?_
          rintro r U2 ⟨sa, rfl, sS, bU2⟩
          have hb2 := hb1.trans (bU2.mono hb1.size)
          have cD2 := cD1.on bU2 cD1.lt
          have gD2 := gD1.on bU2 gD1.lt
          have xP := xP.on bU2 xP.lt
          go_simp
          refine hK _ _ cD2 ?_
          clear hK K
          refine wpAnyC_calls 3 (by kernel_rfl) (fun oi ho K hK => ?_)
          simp only [List.getElem?_toArray, List.getElem?_cons_succ, List.getElem?_cons_zero, Option.some.injEq] at ho
          subst ho
          obtain ⟨U3, hU3⟩ : ∃ U3, U3 = U2.alloc (.cells (elB.cs ⟨some ⟨P, 0, none⟩, 1, none, 0⟩) 41) := ⟨_, rfl⟩
          have bU3 : Below U2.heap.size U2 U3 := by rw [hU3]; exact (Below.refl _ _).alloc (Nat.le_refl _) _
          have hb3 := hb2.trans (bU3.mono hb2.size)
          have cD3 := cD2.on bU3 cD2.lt
          have gD3 := gD2.on bU3 gD2.lt
          have sS := sS.on bU3
          have xP := xP.on bU3 xP.lt
          obtain ⟨Q, hQ⟩ : ∃ Q, Q = U2.heap.size := ⟨_, rfl⟩
          have xQ : Box U3 Q 41 (elB.cs ⟨some ⟨P, 0, none⟩, 1, none, 0⟩) := by rw [hU3, hQ]; exact Box.new _ _ _
          go_simp
          rw [← hQ, show U2.alloc (.cells #[.string ⟨#[97]⟩, .slice (some ⟨P, 0, none⟩) 1 1, .bool false, .bool false, .int .i64 0, .int .i64 0, .int .i64 0, .string ⟨#[]⟩, .string ⟨#[]⟩, .string ⟨#[]⟩, .slice none 0 0] 41) = U3 from hU3.symm]
          refine hK _ _ cD3 ?_
          clear hK K hU3 hQ
          have em := ems_box elB _ xQ ⟨txts_one _ xP, .nil _⟩
          have cK := hide (kind9_c (some ⟨Q, 0, none⟩) sa 1 2 baseT [elB] (some ⟨g, 0, none⟩) 2 (.mk (opD 5) [fieldT (tk [97]) (nmT i), fieldT (tk [97]) (nmT j)]) U3 sS em (lies_two _ _ gD3))
          rw [← unhide hR] at cK
          replace hb3 := hide hb3
          clear em
          refine wpAnyC_calls 5 (by kernel_rfl) (fun oi ho K hK => ?_)
          simp only [List.getElem?_toArray, List.getElem?_cons_succ, List.getElem?_cons_zero, Option.some.injEq] at ho
          subst ho
          go_simp
          refine (unhide cK).mono ?_
          rintro r U4 ⟨rfl, bU4⟩
          have hb4 := hide ((unhide hb3).trans (bU4.mono (unhide hb3).size))
          have cD4 := cD3.on bU4 cD3.lt
          dsimp only [KR.v, encK]
          go_simp
          refine hK _ _ cD4 ?_
          clear hK K cK
          refine wpAnyC_reads 6 cD4 (by kernel_rfl) (by kernel_rfl) (by kernel_rfl) (fun d _ _ _ _ h => by cases d <;> exact h) (fun oi ho K hK => ?_)
          simp only [List.getElem?_toArray, List.getElem?_cons_succ, List.getElem?_cons_zero, Option.some.injEq] at ho
          subst ho
          rw [if_pos (by kernel_rfl)]
          refine ⟨.tuple #[.int .i64 r1, errO r2], fun w' hw' => ?_, hK _ ?_⟩
          · clear hw'
            go_simp
          clear hK K
          refine wpAnyC_reads 7 cD4 (by kernel_rfl) (by kernel_rfl) (by kernel_rfl) (fun d _ _ _ _ h => by cases d <;> exact h) (fun oi ho K hK => ?_)
          simp only [List.getElem?_toArray, List.getElem?_cons_succ, List.getElem?_cons_zero, Option.some.injEq] at ho
          subst ho
          rw [if_pos (by kernel_rfl)]
          refine ⟨.int .i64 r1, fun w' hw' => ?_, hK _ ?_⟩
          · clear hw'
            go_simp
          clear hK K
          refine wpAnyC_reads 8 cD4 (by kernel_rfl) (by kernel_rfl) (by kernel_rfl) (fun d _ _ _ _ h => by cases d <;> exact h) (fun oi ho K hK => ?_)
          simp only [List.getElem?_toArray, List.getElem?_cons_succ, List.getElem?_cons_zero, Option.some.injEq] at ho
          subst ho
          rw [if_pos (by kernel_rfl)]
          refine ⟨errO r2, fun w' hw' => ?_, hK _ ?_⟩
          · clear hw'
            go_simp
          clear hK K
          refine wpAnyC_reads 9 cD4 (by kernel_rfl) (by kernel_rfl) (by kernel_rfl) (fun d _ _ _ _ h => by cases d <;> exact h) (fun oi ho K hK => ?_)
          simp only [List.getElem?_toArray, List.getElem?_cons_succ, List.getElem?_cons_zero, Option.some.injEq] at ho
          subst ho
          rw [if_pos (by kernel_rfl)]
          refine ⟨.int .i64 r1, fun w' hw' => ?_, hK _ ?_⟩
          · clear hw'
            go_simp
          clear hK K
          refine wpAnyC_reads 10 cD4 (by kernel_rfl) (by kernel_rfl) (by kernel_rfl) (fun d _ _ _ _ h => by cases d <;> exact h) (fun oi ho K hK => ?_)
          simp only [List.getElem?_toArray, List.getElem?_cons_succ, List.getElem?_cons_zero, Option.some.injEq] at ho
          subst ho
          rw [if_pos (by kernel_rfl)]
          refine ⟨errO r2, fun w' hw' => ?_, hK _ ?_⟩
          · clear hw'
            go_simp
          clear hK K
          refine wpAnyC_done (by kernel_rfl) ?_ _
          go_wp2_with fail
          go_meet
          exact ⟨⟨rfl, rfl⟩, hb4⟩
        · simp only [List.getElem?_toArray, List.getElem?_cons_succ, List.getElem?_cons_zero, Option.some.injEq] at ho
          subst ho
          obtain ⟨U2, hU2⟩ : ∃ U2, U2 = U1.alloc (.cells (elB.cs ⟨some ⟨P, 0, none⟩, 1, none, 0⟩) 41) := ⟨_, rfl⟩
          have bU2 : Below U1.heap.size U1 U2 := by rw [hU2]; exact (Below.refl _ _).alloc (Nat.le_refl _) _
          have hb2 := hb1.trans (bU2.mono hb1.size)
          have cD2 := cD1.on bU2 cD1.lt
          have gD2 := gD1.on bU2 gD1.lt
          have xP := xP.on bU2 xP.lt
          obtain ⟨Q, hQ⟩ : ∃ Q, Q = U1.heap.size := ⟨_, rfl⟩
          have xQ : Box U2 Q 41 (elB.cs ⟨some ⟨P, 0, none⟩, 1, none, 0⟩) := by rw [hU2, hQ]; exact Box.new _ _ _
          go_simp
          rw [← hQ, show U1.alloc (.cells #[.string ⟨#[97]⟩, .slice (some ⟨P, 0, none⟩) 1 1, .bool false, .bool false, .int .i64 0, .int .i64 0, .int .i64 0, .string ⟨#[]⟩, .string ⟨#[]⟩, .string ⟨#[]⟩, .slice none 0 0] 41) = U2 from hU2.symm]
          refine hK _ _ cD2 ?_
          clear hK K hU2 hQ
          refine wpAnyC_calls 0 (by kernel_rfl) (fun oi ho K hK => ?_)
          simp only [List.getElem?_toArray, List.getElem?_cons_zero, Option.some.injEq] at ho
          subst ho
          go_simp
          refine (base_c U2).mono ?_
          rintro r U3 ⟨sa, rfl, sS, bU3⟩
          have hb3 := hb2.trans (bU3.mono hb2.size)
          have cD3 := cD2.on bU3 cD2.lt
          have gD3 := gD2.on bU3 gD2.lt
          have xQ := xQ.on bU3 xQ.lt
          have xP := xP.on bU3 xP.lt
          go_simp
          refine hK _ _ cD3 ?_
          clear hK K
          have em := ems_box elB _ xQ ⟨txts_one _ xP, .nil _⟩
          have cK := hide (kind9_c (some ⟨Q, 0, none⟩) sa 1 2 baseT [elB] (some ⟨g, 0, none⟩) 2 (.mk (opD 5) [fieldT (tk [97]) (nmT i), fieldT (tk [97]) (nmT j)]) U3 sS em (lies_two _ _ gD3))
          rw [← unhide hR] at cK
          replace hb3 := hide hb3
          clear em
          refine wpAnyC_calls 5 (by kernel_rfl) (fun oi ho K hK => ?_)
          simp only [List.getElem?_toArray, List.getElem?_cons_succ, List.getElem?_cons_zero, Option.some.injEq] at ho
          subst ho
          go_simp
          refine (unhide cK).mono ?_
          rintro r U4 ⟨rfl, bU4⟩
          have hb4 := hide ((unhide hb3).trans (bU4.mono (unhide hb3).size))
          have cD4 := cD3.on bU4 cD3.lt
          dsimp only [KR.v, encK]
          go_simp
          refine hK _ _ cD4 ?_
          clear hK K cK
          refine wpAnyC_reads 6 cD4 (by kernel_rfl) (by kernel_rfl) (by kernel_rfl) (fun d _ _ _ _ h => by cases d <;> exact h) (fun oi ho K hK => ?_)
          simp only [List.getElem?_toArray, List.getElem?_cons_succ, List.getElem?_cons_zero, Option.some.injEq] at ho
          subst ho
          rw [if_pos (by kernel_rfl)]
          refine ⟨.tuple #[.int .i64 r1, errO r2], fun w' hw' => ?_, hK _ ?_⟩
          · clear hw'
            go_simp
          clear hK K
          refine wpAnyC_reads 7 cD4 (by kernel_rfl) (by kernel_rfl) (by kernel_rfl) (fun d _ _ _ _ h => by cases d <;> exact h) (fun oi ho K hK => ?_)
          simp only [List.getElem?_toArray, List.getElem?_cons_succ, List.getElem?_cons_zero, Option.some.injEq] at ho
          subst ho
          rw [if_pos (by kernel_rfl)]
          refine ⟨.int .i64 r1, fun w' hw' => ?_, hK _ ?_⟩
          · clear hw'
            go_simp
          clear hK K
          refine wpAnyC_reads 8 cD4 (by kernel_rfl) (by kernel_rfl) (by kernel_rfl) (fun d _ _ _ _ h => by cases d <;> exact h) (fun oi ho K hK => ?_)
          simp only [List.getElem?_toArray, List.getElem?_cons_succ, List.getElem?_cons_zero, Option.some.injEq] at ho
          subst ho
          rw [if_pos (by kernel_rfl)]
          refine ⟨errO r2, fun w' hw' => ?_, hK _ ?_⟩
          · clear hw'
            go_simp
          clear hK K
          refine wpAnyC_reads 9 cD4 (by kernel_rfl) (by kernel_rfl) (by kernel_rfl) (fun d _ _ _ _ h => by cases d <;> exact h) (fun oi ho K hK => ?_)
          simp only [List.getElem?_toArray, List.getElem?_cons_succ, List.getElem?_cons_zero, Option.some.injEq] at ho
          subst ho
          rw [if_pos (by kernel_rfl)]
          refine ⟨.int .i64 r1, fun w' hw' => ?_, hK _ ?_⟩
          · clear hw'
            go_simp
          clear hK K
          refine wpAnyC_reads 10 cD4 (by kernel_rfl) (by kernel_rfl) (by kernel_rfl) (fun d _ _ _ _ h => by cases d <;> exact h) (fun oi ho K hK => ?_)
          simp only [List.getElem?_toArray, List.getElem?_cons_succ, List.getElem?_cons_zero, Option.some.injEq] at ho
          subst ho
          rw [if_pos (by kernel_rfl)]
          refine ⟨errO r2, fun w' hw' => ?_, hK _ ?_⟩
          · clear hw'
            go_simp
          clear hK K
          refine wpAnyC_done (by kernel_rfl) ?_ _
          go_wp2_with fail
          go_meet
          exact ⟨⟨rfl, rfl⟩, hb4⟩
    case rest =>
      obtain ⟨⟨rfl, rfl⟩, hbd⟩ := hcut
      have hi01 : i = 0 ∨ i = 1 ∨ i = 2 := by omega
      have hj01 : j = 0 ∨ j = 1 ∨ j = 2 := by omega
      clear hiI hjI hi3 hj3 hne hwD hwB
      rcases hi01 with rfl | rfl | rfl <;> rcases hj01 with rfl | rfl | rfl
      · obtain ⟨rfl, rfl⟩ := Prod.mk.inj ((unhide hR).trans (show _ = ((1, 0) : KR) by decide +kernel))
        rw [show errO 0 = .nilIface from rfl]
        clear hR
        go_wp2_with fail
        go_ret
        exact ⟨rfl, tailB (unhide hbd)⟩
      · obtain ⟨rfl, rfl⟩ := Prod.mk.inj ((unhide hR).trans (show _ = ((0, 14) : KR) by decide +kernel))
        rw [show errO 14 = errV 14 from rfl]
        clear hR
        go_wp2_with fail
        refine (errIs_same 14 _).mono ?_
        rintro r w9 ⟨rfl, rfl⟩
        go_wp2_with fail
        go_ret
        exact ⟨rfl, tailB (unhide hbd)⟩
      · obtain ⟨rfl, rfl⟩ := Prod.mk.inj ((unhide hR).trans (show _ = ((0, 14) : KR) by decide +kernel))
        rw [show errO 14 = errV 14 from rfl]
        clear hR
        go_wp2_with fail
        refine (errIs_same 14 _).mono ?_
        rintro r w9 ⟨rfl, rfl⟩
        go_wp2_with fail
        go_ret
        exact ⟨rfl, tailB (unhide hbd)⟩
      · obtain ⟨rfl, rfl⟩ := Prod.mk.inj ((unhide hR).trans (show _ = ((0, 14) : KR) by decide +kernel))
        rw [show errO 14 = errV 14 from rfl]
        clear hR
        go_wp2_with fail
        refine (errIs_same 14 _).mono ?_
        rintro r w9 ⟨rfl, rfl⟩
        go_wp2_with fail
        go_ret
        exact ⟨rfl, tailB (unhide hbd)⟩
      · obtain ⟨rfl, rfl⟩ := Prod.mk.inj ((unhide hR).trans (show _ = ((0, 14) : KR) by decide +kernel))
        rw [show errO 14 = errV 14 from rfl]
        clear hR
        go_wp2_with fail
        refine (errIs_same 14 _).mono ?_
        rintro r w9 ⟨rfl, rfl⟩
        go_wp2_with fail
        go_ret
        exact ⟨rfl, tailB (unhide hbd)⟩
      · obtain ⟨rfl, rfl⟩ := Prod.mk.inj ((unhide hR).trans (show _ = ((0, 14) : KR) by decide +kernel))
        rw [show errO 14 = errV 14 from rfl]
        clear hR
        go_wp2_with fail
        refine (errIs_same 14 _).mono ?_
        rintro r w9 ⟨rfl, rfl⟩
        go_wp2_with fail
        go_ret
        exact ⟨rfl, tailB (unhide hbd)⟩
      · obtain ⟨rfl, rfl⟩ := Prod.mk.inj ((unhide hR).trans (show _ = ((0, 14) : KR) by decide +kernel))
        rw [show errO 14 = errV 14 from rfl]
        clear hR
        go_wp2_with fail
        refine (errIs_same 14 _).mono ?_
        rintro r w9 ⟨rfl, rfl⟩
        go_wp2_with fail
        go_ret
        exact ⟨rfl, tailB (unhide hbd)⟩
      · obtain ⟨rfl, rfl⟩ := Prod.mk.inj ((unhide hR).trans (show _ = ((0, 14) : KR) by decide +kernel))
        rw [show errO 14 = errV 14 from rfl]
        clear hR
        go_wp2_with fail
        refine (errIs_same 14 _).mono ?_
        rintro r w9 ⟨rfl, rfl⟩
        go_wp2_with fail
        go_ret
        exact ⟨rfl, tailB (unhide hbd)⟩
      · obtain ⟨rfl, rfl⟩ := Prod.mk.inj ((unhide hR).trans (show _ = ((0, 14) : KR) by decide +kernel))
        rw [show errO 14 = errV 14 from rfl]
        clear hR
        go_wp2_with fail
        refine (errIs_same 14 _).mono ?_
        rintro r w9 ⟨rfl, rfl⟩
        go_wp2_with fail
        go_ret
        exact ⟨rfl, tailB (unhide hbd)⟩
set_option maxRecDepth 100000 in
set_option maxHeartbeats 8000000 in
theorem ops3_3 (n0 n1 n2 : Int) (h0 : 0 ≤ n0) (h1 : n0 ≤ 255) (h2 : 0 ≤ n1) (h3 : n1 ≤ 255) (h4 : 0 ≤ n2) (h5 : n2 ≤ 255) (hm : n0 % 10 = 3) (w : World) : Calls Try.prog 3 #[.int .u8 n0, .int .u8 n1, .int .u8 n2] w fun e w' => e = .returned (.bool true) ∧ Below w.heap.size w w' := by
  have cK := hide (known6_c w)
  obtain ⟨i, hi3, hi⟩ : ∃ i : Nat, i < 3 ∧ n1 % 3 = (i : Int) := ⟨(n1 % 3).toNat, by omega, by omega⟩
  obtain ⟨j, hj3, hj⟩ : ∃ j : Nat, j < 3 ∧ n2 % 3 = (j : Int) := ⟨(n2 % 3).toNat, by omega, by omega⟩
  have hmx : Try.prog.follows .mixedOrders = true := by kernel_rfl
  go_enter Try.func3, Try.ntmps3
  go_wp2_with fail
  refine (unhide cK).mono ?_
  rintro r w1 ⟨rfl, hb1⟩
  clear cK
  obtain ⟨B, hB⟩ : ∃ B, B = w1.heap.size := ⟨_, rfl⟩
  obtain ⟨W2, hW2⟩ : ∃ W2, W2 = w1.alloc (.cells #[.string ⟨#[110]⟩, .string ⟨#[115]⟩, .string ⟨#[98]⟩] 23) := ⟨_, rfl⟩
  have x2 : Box W2 B 23 #[.string ⟨#[110]⟩, .string ⟨#[115]⟩, .string ⟨#[98]⟩] := by rw [hW2, hB]; exact Box.new _ _ _
  have b2 : Below w.heap.size w W2 := by rw [hW2]; exact hb1.alloc hb1.size _
  have hwB : w.heap.size ≤ B := by rw [hB]; exact hb1.size
  go_upto_region 6 with fail
  rw [← hB, ← hW2]
  clear hB hW2 hb1
  replace hm := hide hm
  replace hi := hide hi
  replace hj := hide hj
  have hiI : (i : Int) < 3 := by omega
  have hjI : (j : Int) < 3 := by omega
  go_cut [11] from 107 (fun v11 wc => Hid (OpsL w 6 (fieldD (tk [97]) (nmT i)) (fieldD (tk [97]) (nmT j)) v11 wc))
  case first =>
    obtain ⟨D0, hD0⟩ : ∃ D0, D0 = W2.drew := ⟨_, rfl⟩
    have bD : Below W2.heap.size W2 D0 := by rw [hD0]; exact (Below.refl _ _).drew
    have cD0 : Box D0 B 23 #[.string ⟨#[110]⟩, .string ⟨#[115]⟩, .string ⟨#[98]⟩] := x2.on bD x2.lt
    have hb0 : Below w.heap.size w D0 := b2.trans (bD.mono b2.size)
    refine wp_region_any hmx (wpAny_of_C (C := fun w' => Box w' B 23 #[.string ⟨#[110]⟩, .string ⟨#[115]⟩, .string ⟨#[98]⟩]) _ _ _ _ ?_)
    rw [show ({ heap := W2.heap, tape := W2.tape, drawn := W2.drawn + 1, os := W2.os, output := W2.output } : World) = D0 from hD0.symm]
    clear hD0 bD b2 x2
    refine wpAnyC_reads 0 cD0 (by kernel_rfl) (by kernel_rfl) (by kernel_rfl) (fun d _ _ _ _ h => by cases d <;> exact h) (fun oi ho K hK => ?_)
    simp only [List.getElem?_toArray, List.getElem?_cons_zero, Option.some.injEq] at ho
    subst ho
    rw [if_pos (by kernel_rfl)]
    refine ⟨.int .i64 6, fun w' hw' => ?_, hK _ ?_⟩
    · clear hw'
      go_simp
    clear hK K
    refine wpAnyC_reads 1 cD0 (by kernel_rfl) (by kernel_rfl) (by kernel_rfl) (fun d _ _ _ _ h => by cases d <;> exact h) (fun oi ho K hK => ?_)
    simp only [List.getElem?_toArray, List.getElem?_cons_succ, List.getElem?_cons_zero, Option.some.injEq] at ho
    subst ho
    rw [if_pos (by kernel_rfl)]
    refine ⟨.int .i64 i, fun w' hw' => ?_, hK _ ?_⟩
    · clear hw'
      go_simp
    clear hK K
    refine wpAnyC_reads 2 cD0 (by kernel_rfl) (by kernel_rfl) (by kernel_rfl) (fun d _ _ _ _ h => by cases d <;> exact h) (fun oi ho K hK => ?_)
    simp only [List.getElem?_toArray, List.getElem?_cons_succ, List.getElem?_cons_zero, Option.some.injEq] at ho
    subst ho
    rw [if_pos (by kernel_rfl)]
    refine ⟨.pointer (some ⟨B, i, none⟩), fun w' hw' => ?_, hK _ ?_⟩
    · clear hw'
      go_simp
    clear hK K
    refine wpAnyC_reads 3 cD0 (by kernel_rfl) (by kernel_rfl) (by kernel_rfl) (fun d _ _ _ _ h => by cases d <;> exact h) (fun oi ho K hK => ?_)
    simp only [List.getElem?_toArray, List.getElem?_cons_succ, List.getElem?_cons_zero, Option.some.injEq] at ho
    subst ho
    rw [if_pos (by kernel_rfl)]
    refine ⟨.string (nmT i).1, fun w' hw' => ?_, hK _ ?_⟩
    · have hs0 := nm_cell hw' i hi3
      have hs1 := nm_cell hw' j hj3
      go_simp
    clear hK K
    refine wpAnyC_reads 5 cD0 (by kernel_rfl) (by kernel_rfl) (by kernel_rfl) (fun d _ _ _ _ h => by cases d <;> exact h) (fun oi ho K hK => ?_)
    simp only [List.getElem?_toArray, List.getElem?_cons_succ, List.getElem?_cons_zero, Option.some.injEq] at ho
    subst ho
    rw [if_pos (by kernel_rfl)]
    refine ⟨.int .i64 j, fun w' hw' => ?_, hK _ ?_⟩
    · clear hw'
      go_simp
    clear hK K
    refine wpAnyC_reads 6 cD0 (by kernel_rfl) (by kernel_rfl) (by kernel_rfl) (fun d _ _ _ _ h => by cases d <;> exact h) (fun oi ho K hK => ?_)
    simp only [List.getElem?_toArray, List.getElem?_cons_succ, List.getElem?_cons_zero, Option.some.injEq] at ho
    subst ho
    rw [if_pos (by kernel_rfl)]
    refine ⟨.pointer (some ⟨B, j, none⟩), fun w' hw' => ?_, hK _ ?_⟩
    · clear hw'
      go_simp
    clear hK K
    refine wpAnyC_reads 7 cD0 (by kernel_rfl) (by kernel_rfl) (by kernel_rfl) (fun d _ _ _ _ h => by cases d <;> exact h) (fun oi ho K hK => ?_)
    simp only [List.getElem?_toArray, List.getElem?_cons_succ, List.getElem?_cons_zero, Option.some.injEq] at ho
    subst ho
    rw [if_pos (by kernel_rfl)]
    refine ⟨.string (nmT j).1, fun w' hw' => ?_, hK _ ?_⟩
    · have hs0 := nm_cell hw' i hi3
      have hs1 := nm_cell hw' j hj3
      go_simp
    clear hK K
    refine wpAnyC_two 4 10 (by kernel_rfl) (fun oi ho K hK => ?_) (fun oi ho K hK => ?_)
    · simp only [List.getElem?_toArray, List.getElem?_cons_succ, List.getElem?_cons_zero, Option.some.injEq] at ho
      subst ho
      go_simp
      refine (field8_c (tk [97]) (nmT i) D0).mono ?_
      rintro r U1 ⟨rfl, bU1⟩
      have hb1 := hb0.trans (bU1.mono hb0.size)
      have cD1 := cD0.on bU1 cD0.lt
      go_simp
      refine hK _ _ cD1 ?_
      clear hK K
      refine wpAnyC_two 8 10 (by kernel_rfl) (fun oi ho K hK => ?_) (fun oi ho K hK => ?_)
      · simp only [List.getElem?_toArray, List.getElem?_cons_succ, List.getElem?_cons_zero, Option.some.injEq] at ho
        subst ho
        go_simp
        refine (field8_c (tk [97]) (nmT j) U1).mono ?_
        rintro r U2 ⟨rfl, bU2⟩
        have hb2 := hb1.trans (bU2.mono hb1.size)
        have cD2 := cD1.on bU2 cD1.lt
        go_simp
        refine hK _ _ cD2 ?_
        clear hK K
        refine wpAnyC_two 9 10 (by kernel_rfl) (fun oi ho K hK => ?_) (fun oi ho K hK => ?_)
        · simp only [List.getElem?_toArray, List.getElem?_cons_succ, List.getElem?_cons_zero, Option.some.injEq] at ho
          subst ho
          go_simp
          refine (two7_c 6 (fieldD (tk [97]) (nmT i)) (fieldD (tk [97]) (nmT j)) U2).mono ?_
          rintro r U3 ⟨g, rfl, hg, xg, bU3⟩
          have hb3 := hb2.trans (bU3.mono hb2.size)
          have cD3 := cD2.on bU3 cD2.lt
          go_simp
          refine hK _ _ cD3 ?_
          clear hK K
          refine wpAnyC_calls 10 (by kernel_rfl) (fun oi ho K hK => ?_)
          simp only [List.getElem?_toArray, List.getElem?_cons_succ, List.getElem?_cons_zero, Option.some.injEq] at ho
          subst ho
          go_simp
          obtain ⟨U4, hU4⟩ : ∃ U4, U4 = U3.alloc (.cells zero28 28) := ⟨_, rfl⟩
          have bU4 : Below U3.heap.size U3 U4 := by rw [hU4]; exact (Below.refl _ _).alloc (Nat.le_refl _) _
          have hb4 := hb3.trans (bU4.mono hb3.size)
          have cD4 := cD3.on bU4 cD3.lt
          obtain ⟨D, hD⟩ : ∃ D, D = U3.heap.size := ⟨_, rfl⟩
          have xD4 : Box U4 D 28 zero28 := by rw [hU4, hD]; exact Box.new _ _ _
          have hwD : w.heap.size ≤ D := by rw [hD]; exact hb3.size
          have hBD : B < D := by rw [hD]; exact cD3.lt
          have hne : D ≠ g := by have := xg.lt; omega
          have xg := xg.on bU4 xg.lt
          rw [← hD, ← hU4]
          refine hK _ _ cD4 ?_
          clear hK K hU4 hD
          have hf0 := xD4.frz
          obtain ⟨z0, z1, z2, z3, z4, z5, z6⟩ := xD4.seven
          have hst := fun W' hW => store7 (D := D) (g := g) 6 xD4 xg hne (some ⟨g, 0, none⟩) W' hW
          replace hst := hide hst
          replace hb4 := hide hb4
          have z7 := hf0 0
          have z8 := hf0 1
          have z9 := hf0 2
          have z10 := hf0 3
          have z11 := hf0 4
          have z12 := hf0 5
          have z13 := hf0 6
          clear hf0
          refine wpAnyC_calls 11 (by kernel_rfl) (fun oi ho K hK => ?_)
          simp only [List.getElem?_toArray, List.getElem?_cons_succ, List.getElem?_cons_zero, Option.some.injEq] at ho
          subst ho
          go_simp
          have hq := unhide hst _ rfl
          refine hK _ _ ?_ ?_
          · have := cD4
            exact ((((((this.other _ _ (by simp only; omega)).other _ _ (by simp only; omega)).other _ _ (by simp only; omega)).other _ _ (by simp only; omega)).other _ _ (by simp only; omega)).other _ _ (by simp only; omega)).other _ _ (by simp only; omega)
          clear hK K
          refine wpAnyC_done (by kernel_rfl) ?_ _
          go_wp2_with fail
          go_meet
          exact ⟨⟨D, g, rfl, hq.1, hq.2.1, hne, hwD⟩, hq.2.2 _ _ hwD (unhide hb4)⟩
        · simp only [List.getElem?_toArray, List.getElem?_cons_succ, List.getElem?_cons_zero, Option.some.injEq] at ho
          subst ho
          go_simp
          obtain ⟨U3, hU3⟩ : ∃ U3, U3 = U2.alloc (.cells zero28 28) := ⟨_, rfl⟩
          have bU3 : Below U2.heap.size U2 U3 := by rw [hU3]; exact (Below.refl _ _).alloc (Nat.le_refl _) _
          have hb3 := hb2.trans (bU3.mono hb2.size)
          have cD3 := cD2.on bU3 cD2.lt
          obtain ⟨D, hD⟩ : ∃ D, D = U2.heap.size := ⟨_, rfl⟩
          have xD3 : Box U3 D 28 zero28 := by rw [hU3, hD]; exact Box.new _ _ _
          have hwD : w.heap.size ≤ D := by rw [hD]; exact hb2.size
          have hBD : B < D := by rw [hD]; exact cD2.lt
          rw [← hD, ← hU3]
          refine hK _ _ cD3 ?_
          clear hK K hU3 hD
          refine wpAnyC_calls 9 (by kernel_rfl) (fun oi ho K hK => ?_)
          simp only [List.getElem?_toArray, List.getElem?_cons_succ, List.getElem?_cons_zero, Option.some.injEq] at ho
          subst ho
          go_simp
          refine (two7_c 6 (fieldD (tk [97]) (nmT i)) (fieldD (tk [97]) (nmT j)) U3).mono ?_
          rintro r U4 ⟨g, rfl, hg, xg, bU4⟩
          have hne : D ≠ g := by have := xD3.lt; omega
          have hb4 := hb3.trans (bU4.mono hb3.size)
          have cD4 := cD3.on bU4 cD3.lt
          have xD4 := xD3.on bU4 xD3.lt
          go_simp
          refine hK _ _ cD4 ?_
          clear hK K
          have hf0 := xD4.frz
          obtain ⟨z0, z1, z2, z3, z4, z5, z6⟩ := xD4.seven
          have hst := fun W' hW => store7 (D := D) (g := g) 6 xD4 xg hne (some ⟨g, 0, none⟩) W' hW
          replace hst := hide hst
          replace hb4 := hide hb4
          have z7 := hf0 0
          have z8 := hf0 1
          have z9 := hf0 2
          have z10 := hf0 3
          have z11 := hf0 4
          have z12 := hf0 5
          have z13 := hf0 6
          clear hf0
          refine wpAnyC_calls 11 (by kernel_rfl) (fun oi ho K hK => ?_)
          simp only [List.getElem?_toArray, List.getElem?_cons_succ, List.getElem?_cons_zero, Option.some.injEq] at ho
          subst ho
          go_simp
          have hq := unhide hst _ rfl
          refine hK _ _ ?_ ?_
          · have := cD4
            exact ((((((this.other _ _ (by simp only; omega)).other _ _ (by simp only; omega)).other _ _ (by simp only; omega)).other _ _ (by simp only; omega)).other _ _ (by simp only; omega)).other _ _ (by simp only; omega)).other _ _ (by simp only; omega)
          clear hK K
          refine wpAnyC_done (by kernel_rfl) ?_ _
          go_wp2_with fail
          go_meet
          exact ⟨⟨D, g, rfl, hq.1, hq.2.1, hne, hwD⟩, hq.2.2 _ _ hwD (unhide hb4)⟩
      · simp only [List.getElem?_toArray, List.getElem?_cons_succ, List.getElem?_cons_zero, Option.some.injEq] at ho
        subst ho
        go_simp
        obtain ⟨U2, hU2⟩ : ∃ U2, U2 = U1.alloc (.cells zero28 28) := ⟨_, rfl⟩
        have bU2 : Below U1.heap.size U1 U2 := by rw [hU2]; exact (Below.refl _ _).alloc (Nat.le_refl _) _
        have hb2 := hb1.trans (bU2.mono hb1.size)
        have cD2 := cD1.on bU2 cD1.lt
        obtain ⟨D, hD⟩ : ∃ D, D = U1.heap.size := ⟨_, rfl⟩
        have xD2 : Box U2 D 28 zero28 := by rw [hU2, hD]; exact Box.new _ _ _
        have hwD : w.heap.size ≤ D := by rw [hD]; exact hb1.size
        have hBD : B < D := by rw [hD]; exact cD1.lt
        rw [← hD, ← hU2]
        refine hK _ _ cD2 ?_
        clear hK K hU2 hD
        refine wpAnyC_calls 8 (by kernel_rfl) (fun oi ho K hK => ?_)
        simp only [List.getElem?_toArray, List.getElem?_cons_succ, List.getElem?_cons_zero, Option.some.injEq] at ho
        subst ho
        go_simp
        refine (field8_c (tk [97]) (nmT j) U2).mono ?_
        rintro r U3 ⟨rfl, bU3⟩
        have hb3 := hb2.trans (bU3.mono hb2.size)
        have cD3 := cD2.on bU3 cD2.lt
        have xD3 := xD2.on bU3 xD2.lt
        go_simp
        refine hK _ _ cD3 ?_
        clear hK K
        refine wpAnyC_calls 9 (by kernel_rfl) (fun oi ho K hK => ?_)
        simp only [List.getElem?_toArray, List.getElem?_cons_succ, List.getElem?_cons_zero, Option.some.injEq] at ho
        subst ho
        go_simp
        refine (two7_c 6 (fieldD (tk [97]) (nmT i)) (fieldD (tk [97]) (nmT j)) U3).mono ?_
        rintro r U4 ⟨g, rfl, hg, xg, bU4⟩
        have hne : D ≠ g := by have := xD3.lt; omega
        have hb4 := hb3.trans (bU4.mono hb3.size)
        have cD4 := cD3.on bU4 cD3.lt
        have xD4 := xD3.on bU4 xD3.lt
        go_simp
        refine hK _ _ cD4 ?_
        clear hK K
        have hf0 := xD4.frz
        obtain ⟨z0, z1, z2, z3, z4, z5, z6⟩ := xD4.seven
        have hst := fun W' hW => store7 (D := D) (g := g) 6 xD4 xg hne (some ⟨g, 0, none⟩) W' hW
        replace hst := hide hst
        replace hb4 := hide hb4
        have z7 := hf0 0
        have z8 := hf0 1
        have z9 := hf0 2
        have z10 := hf0 3
        have z11 := hf0 4
        have z12 := hf0 5
        have z13 := hf0 6
        clear hf0
        refine wpAnyC_calls 11 (by kernel_rfl) (fun oi ho K hK => ?_)
        simp only [List.getElem?_toArray, List.getElem?_cons_succ, List.getElem?_cons_zero, Option.some.injEq] at ho
        subst ho
        go_simp
        have hq := unhide hst _ rfl
        refine hK _ _ ?_ ?_
        · have := cD4
          exact ((((((this.other _ _ (by simp only; omega)).other _ _ (by simp only; omega)).other _ _ (by simp only; omega)).other _ _ (by simp only; omega)).other _ _ (by simp only; omega)).other _ _ (by simp only; omega)).other _ _ (by simp only; omega)
        clear hK K
        refine wpAnyC_done (by kernel_rfl) ?_ _
        go_wp2_with fail
        go_meet
        exact ⟨⟨D, g, rfl, hq.1, hq.2.1, hne, hwD⟩, hq.2.2 _ _ hwD (unhide hb4)⟩
    · simp only [List.getElem?_toArray, List.getElem?_cons_succ, List.getElem?_cons_zero, Option.some.injEq] at ho
      subst ho
      go_simp
      obtain ⟨U1, hU1⟩ : ∃ U1, U1 = D0.alloc (.cells zero28 28) := ⟨_, rfl⟩
      have bU1 : Below D0.heap.size D0 U1 := by rw [hU1]; exact (Below.refl _ _).alloc (Nat.le_refl _) _
      have hb1 := hb0.trans (bU1.mono hb0.size)
      have cD1 := cD0.on bU1 cD0.lt
      obtain ⟨D, hD⟩ : ∃ D, D = D0.heap.size := ⟨_, rfl⟩
      have xD1 : Box U1 D 28 zero28 := by rw [hU1, hD]; exact Box.new _ _ _
      have hwD : w.heap.size ≤ D := by rw [hD]; exact hb0.size
      have hBD : B < D := by rw [hD]; exact cD0.lt
      rw [← hD, ← hU1]
      refine hK _ _ cD1 ?_
      clear hK K hU1 hD
      refine wpAnyC_calls 4 (by kernel_rfl) (fun oi ho K hK => ?_)
      simp only [List.getElem?_toArray, List.getElem?_cons_succ, List.getElem?_cons_zero, Option.some.injEq] at ho
      subst ho
      go_simp
      refine (field8_c (tk [97]) (nmT i) U1).mono ?_
      rintro r U2 ⟨rfl, bU2⟩
      have hb2 := hb1.trans (bU2.mono hb1.size)
      have cD2 := cD1.on bU2 cD1.lt
      have xD2 := xD1.on bU2 xD1.lt
      go_simp
      refine hK _ _ cD2 ?_
      clear hK K
      refine wpAnyC_calls 8 (by kernel_rfl) (fun oi ho K hK => ?_)
      simp only [List.getElem?_toArray, List.getElem?_cons_succ, List.getElem?_cons_zero, Option.some.injEq] at ho
      subst ho
      go_simp
      refine (field8_c (tk [97]) (nmT j) U2).mono ?_
      rintro r U3 ⟨rfl, bU3⟩
      have hb3 := hb2.trans (bU3.mono hb2.size)
      have cD3 := cD2.on bU3 cD2.lt
      have xD3 := xD2.on bU3 xD2.lt
      go_simp
      refine hK _ _ cD3 ?_
      clear hK K
      refine wpAnyC_calls 9 (by kernel_rfl) (fun oi ho K hK => ?_)
      simp only [List.getElem?_toArray, List.getElem?_cons_succ, List.getElem?_cons_zero, Option.some.injEq] at ho
      subst ho
      go_simp
      refine (two7_c 6 (fieldD (tk [97]) (nmT i)) (fieldD (tk [97]) (nmT j)) U3).mono ?_
      rintro r U4 ⟨g, rfl, hg, xg, bU4⟩
      have hne : D ≠ g := by have := xD3.lt; omega
      have hb4 := hb3.trans (bU4.mono hb3.size)
      have cD4 := cD3.on bU4 cD3.lt
      have xD4 := xD3.on bU4 xD3.lt
      go_simp
      refine hK _ _ cD4 ?_
      clear hK K
      have hf0 := xD4.frz
      obtain ⟨z0, z1, z2, z3, z4, z5, z6⟩ := xD4.seven
      have hst := fun W' hW => store7 (D := D) (g := g) 6 xD4 xg hne (some ⟨g, 0, none⟩) W' hW
      replace hst := hide hst
      replace hb4 := hide hb4
      have z7 := hf0 0
      have z8 := hf0 1
      have z9 := hf0 2
      have z10 := hf0 3
      have z11 := hf0 4
      have z12 := hf0 5
      have z13 := hf0 6
      clear hf0
      refine wpAnyC_calls 11 (by kernel_rfl) (fun oi ho K hK => ?_)
      simp only [List.getElem?_toArray, List.getElem?_cons_succ, List.getElem?_cons_zero, Option.some.injEq] at ho
      subst ho
      go_simp
      have hq := unhide hst _ rfl
      refine hK _ _ ?_ ?_
      · have := cD4
        exact ((((((this.other _ _ (by simp only; omega)).other _ _ (by simp only; omega)).other _ _ (by simp only; omega)).other _ _ (by simp only; omega)).other _ _ (by simp only; omega)).other _ _ (by simp only; omega)).other _ _ (by simp only; omega)
      clear hK K
      refine wpAnyC_done (by kernel_rfl) ?_ _
      go_wp2_with fail
      go_meet
      exact ⟨⟨D, g, rfl, hq.1, hq.2.1, hne, hwD⟩, hq.2.2 _ _ hwD (unhide hb4)⟩
  case rest =>
    replace hcut := unhide hcut
    obtain ⟨⟨D, g, rfl, xD, xg, hne, hwD⟩, hbw⟩ := hcut
    obtain ⟨q0, q1, q2, q3, q4, q5, q6⟩ := xD.seven
    have hf6 := xD.frz 6
    go_upto_region 9 with fail
    obtain ⟨W5, hW5⟩ : ∃ W5, W5 = wc := ⟨_, rfl⟩
    rw [← hW5] at xD xg hbw ⊢
    have x5 := xD
    have g5 := xg
    have b5 := hbw
    clear hW5 xD xg hbw
    clear q0 q1 q2 q3 q4 q5 q6 hf6
    obtain ⟨⟨r1, r2⟩, hR⟩ : ∃ R, R = kindP baseT [elB] (.mk (opD 6) [fieldT (tk [97]) (nmT i), fieldT (tk [97]) (nmT j)]) := ⟨_, rfl⟩
    replace hR := hide hR
    go_cut [12, 13] from 107 (fun v12 v13 wd => (v12 = .int .i64 r1 ∧ v13 = errO r2) ∧ Hid (Below w.heap.size w wd))
    case first =>
      obtain ⟨D0, hD0⟩ : ∃ D0, D0 = W5.drew := ⟨_, rfl⟩
      have bD : Below W5.heap.size W5 D0 := by rw [hD0]; exact (Below.refl _ _).drew
      have cD0 : Box D0 D 28 ((opD 6).cs (some ⟨g, 0, none⟩) 2 2) := x5.on bD x5.lt
      have gD0 := g5.on bD g5.lt
      have hb0 : Below w.heap.size w D0 := b5.trans (bD.mono b5.size)
      refine wp_region_any hmx (wpAny_of_C (C := fun w' => Box w' D 28 ((opD 6).cs (some ⟨g, 0, none⟩) 2 2)) _ _ _ _ ?_)
      rw [show ({ heap := W5.heap, tape := W5.tape, drawn := W5.drawn + 1, os := W5.os, output := W5.output } : World) = D0 from hD0.symm]
      clear hD0 bD b5 x5 g5
      refine wpAnyC_reads 4 cD0 (by kernel_rfl) (by kernel_rfl) (by kernel_rfl) (fun d _ _ _ _ h => by cases d <;> exact h) (fun oi ho K hK => ?_)
      simp only [List.getElem?_toArray, List.getElem?_cons_succ, List.getElem?_cons_zero, Option.some.injEq] at ho
      subst ho
      rw [if_pos (by kernel_rfl)]
      refine ⟨(opD 6).v (some ⟨g, 0, none⟩) 2 2, fun w' hw' => ?_, hK _ ?_⟩
      · obtain ⟨hs0, hs1, hs2, hs3, hs4, hs5, hs6⟩ := Box.seven hw'
        go_simp
      clear hK K
      refine wpAnyC_two 0 1 (by kernel_rfl) (fun oi ho K hK => ?_) (fun oi ho K hK => ?_)
      · simp only [List.getElem?_toArray, List.getElem?_cons_zero, Option.some.injEq] at ho
        subst ho
        go_simp
        refine (base_c D0).mono ?_
        rintro r U1 ⟨sa, rfl, sS, bU1⟩
        have hb1 := hb0.trans (bU1.mono hb0.size)
        have cD1 := cD0.on bU1 cD0.lt
        have gD1 := gD0.on bU1 gD0.lt
        go_simp
        refine hK _ _ cD1 ?_
        clear hK K
        refine wpAnyC_calls 1 (by kernel_rfl) (fun oi ho K hK => ?_)
        simp only [List.getElem?_toArray, List.getElem?_cons_succ, List.getElem?_cons_zero, Option.some.injEq] at ho
        subst ho
        obtain ⟨U2, hU2⟩ : ∃ U2, U2 = U1.alloc (.cells #[.string ⟨#[116]⟩] 9) := ⟨_, rfl⟩
        have bU2 : Below U1.heap.size U1 U2 := by rw [hU2]; exact (Below.refl _ _).alloc (Nat.le_refl _) _
        have hb2 := hb1.trans (bU2.mono hb1.size)
        have cD2 := cD1.on bU2 cD1.lt
        have gD2 := gD1.on bU2 gD1.lt
        have sS := sS.on bU2
        obtain ⟨P, hP⟩ : ∃ P, P = U1.heap.size := ⟨_, rfl⟩
        have xP : Box U2 P 9 #[.string (tk [116]).1] := by rw [hU2, hP]; exact Box.new _ _ _
        go_simp
        rw [← hP, ← hU2]
        refine hK _ _ cD2 ?_
        clear hK K hU2 hP
        refine wpAnyC_reads 2 cD2 (by kernel_rfl) (by kernel_rfl) (by kernel_rfl) (fun d _ _ _ _ h => by cases d <;> exact h) (fun oi ho K hK => ?_)
        simp only [List.getElem?_toArray, List.getElem?_cons_succ, List.getElem?_cons_zero, Option.some.injEq] at ho
        subst ho
        rw [if_pos (by kernel_rfl)]
        refine ⟨.agg #[.string ⟨#[97]⟩, .slice (some ⟨P, 0, none⟩) 1 1, .bool false, .bool false, .int .i64 0, .int .i64 0, .int .i64 0, .string ⟨#[]⟩, .string ⟨#[]⟩, .string ⟨#[]⟩, .slice none 0 0], fun w' hw' => ?_, hK _ ?_⟩
        · clear hw'
          go_simp
        clear hK K
        refine wpAnyC_calls 3 (by kernel_rfl) (fun oi ho K hK => ?_)
        simp only [List.getElem?_toArray, List.getElem?_cons_succ, List.getElem?_cons_zero, Option.some.injEq] at ho
        subst ho
        obtain ⟨U3, hU3⟩ : ∃ U3, U3 = U2.alloc (.cells (elB.cs ⟨some ⟨P, 0, none⟩, 1, none, 0⟩) 41) := ⟨_, rfl⟩
        have bU3 : Below U2.heap.size U2 U3 := by rw [hU3]; exact (Below.refl _ _).alloc (Nat.le_refl _) _
        have hb3 := hb2.trans (bU3.mono hb2.size)
        have cD3 := cD2.on bU3 cD2.lt
        have gD3 := gD2.on bU3 gD2.lt
        have sS := sS.on bU3
        have xP := xP.on bU3 xP.lt
        obtain ⟨Q, hQ⟩ : ∃ Q, Q = U2.heap.size := ⟨_, rfl⟩
        have xQ : Box U3 Q 41 (elB.cs ⟨some ⟨P, 0, none⟩, 1, none, 0⟩) := by rw [hU3, hQ]; exact Box.new _ _ _
        go_simp
        rw [← hQ, show U2.alloc (.cells #[.string ⟨#[97]⟩, .slice (some ⟨P, 0, none⟩) 1 1, .bool false, .bool false, .int .i64 0, .int .i64 0, .int .i64 0, .string ⟨#[]⟩, .string ⟨#[]⟩, .string ⟨#[]⟩, .slice none 0 0] 41) = U3 from hU3.symm]
        refine hK _ _ cD3 ?_
        clear hK K hU3 hQ
        have em := ems_box elB _ xQ ⟨txts_one _ xP, .nil _⟩
        have cK := hide (kind9_c (some ⟨Q, 0, none⟩) sa 1 2 baseT [elB] (some ⟨g, 0, none⟩) 2 (.mk (opD 6) [fieldT (tk [97]) (nmT i), fieldT (tk [97]) (nmT j)]) U3 sS em (lies_two _ _ gD3))
        rw [← unhide hR] at cK
        replace hb3 := hide hb3
        clear em
        refine wpAnyC_calls 5 (by kernel_rfl) (fun oi ho K hK => ?_)
        simp only [List.getElem?_toArray, List.getElem?_cons_succ, List.getElem?_cons_zero, Option.some.injEq] at ho
        subst ho
        go_simp
        refine (unhide cK).mono ?_
        rintro r U4 ⟨rfl, bU4⟩
        have hb4 := hide ((unhide hb3).trans (bU4.mono (unhide hb3).size))
        have cD4 := cD3.on bU4 cD3.lt
        dsimp only [KR.v, encK]
        go_simp
        refine hK _ _ cD4 ?_
        clear hK K cK
        refine wpAnyC_reads 6 cD4 (by kernel_rfl) (by kernel_rfl) (by kernel_rfl) (fun d _ _ _ _ h => by cases d <;> exact h) (fun oi ho K hK => ?_)
        simp only [List.getElem?_toArray, List.getElem?_cons_succ, List.getElem?_cons_zero, Option.some.injEq] at ho
        subst ho
        rw [if_pos (by kernel_rfl)]
        refine ⟨.tuple #[.int .i64 r1, errO r2], fun w' hw' => ?_, hK _ ?_⟩
        · clear hw'
          go_simp
        clear hK K
        refine wpAnyC_reads 7 cD4 (by kernel_rfl) (by kernel_rfl) (by kernel_rfl) (fun d _ _ _ _ h => by cases d <;> exact h) (fun oi ho K hK => ?_)
        simp only [List.getElem?_toArray, List.getElem?_cons_succ, List.getElem?_cons_zero, Option.some.injEq] at ho
        subst ho
        rw [if_pos (by kernel_rfl)]
        refine ⟨.int .i64 r1, fun w' hw' => ?_, hK _ ?_⟩
        · clear hw'
          go_simp
        clear hK K
        refine wpAnyC_reads 8 cD4 (by kernel_rfl) (by kernel_rfl) (by kernel_rfl) (fun d _ _ _ _ h => by cases d <;> exact h) (fun oi ho K hK => ?_)
        simp only [List.getElem?_toArray, List.getElem?_cons_succ, List.getElem?_cons_zero, Option.some.injEq] at ho
        subst ho
        rw [if_pos (by kernel_rfl)]
        refine ⟨errO r2, fun w' hw' => ?_, hK _ ?_⟩
        · clear hw'
          go_simp
        clear hK K
        refine wpAnyC_reads 9 cD4 (by kernel_rfl) (by kernel_rfl) (by kernel_rfl) (fun d _ _ _ _ h => by cases d <;> exact h) (fun oi ho K hK => ?_)
        simp only [List.getElem?_toArray, List.getElem?_cons_succ, List.getElem?_cons_zero, Option.some.injEq] at ho
        subst ho
        rw [if_pos (by kernel_rfl)]
        refine ⟨.int .i64 r1, fun w' hw' => ?_, hK _ ?_⟩
        · clear hw'
          go_simp
        clear hK K
        refine wpAnyC_reads 10 cD4 (by kernel_rfl) (by kernel_rfl) (by kernel_rfl) (fun d _ _ _ _ h => by cases d <;> exact h) (fun oi ho K hK => ?_)
        simp only [List.getElem?_toArray, List.getElem?_cons_succ, List.getElem?_cons_zero, Option.some.injEq] at ho
        subst ho
        rw [if_pos (by kernel_rfl)]
        refine ⟨errO r2, fun w' hw' => ?_, hK _ ?_⟩
        · clear hw'
          go_simp
        clear hK K
        refine wpAnyC_done (by kernel_rfl) ?_ _
        go_wp2_with fail
        go_meet
        exact ⟨⟨rfl, rfl⟩, hb4⟩
      · simp only [List.getElem?_toArray, List.getElem?_cons_succ, List.getElem?_cons_zero, Option.some.injEq] at ho
        subst ho
        obtain ⟨U1, hU1⟩ : ∃ U1, U1 = D0.alloc (.cells #[.string ⟨#[116]⟩] 9) := ⟨_, rfl⟩
        have bU1 : Below D0.heap.size D0 U1 := by rw [hU1]; exact (Below.refl _ _).alloc (Nat.le_refl _) _
        have hb1 := hb0.trans (bU1.mono hb0.size)
        have cD1 := cD0.on bU1 cD0.lt
        have gD1 := gD0.on bU1 gD0.lt
        obtain ⟨P, hP⟩ : ∃ P, P = D0.heap.size := ⟨_, rfl⟩
        have xP : Box U1 P 9 #[.string (tk [116]).1] := by rw [hU1, hP]; exact Box.new _ _ _
        go_simp
        rw [← hP, ← hU1]
        refine hK _ _ cD1 ?_
        clear hK K hU1 hP
        refine wpAnyC_reads 2 cD1 (by kernel_rfl) (by kernel_rfl) (by kernel_rfl) (fun d _ _ _ _ h => by cases d <;> exact h) (fun oi ho K hK => ?_)
        simp only [List.getElem?_toArray, List.getElem?_cons_succ, List.getElem?_cons_zero, Option.some.injEq] at ho
        subst ho
        rw [if_pos (by kernel_rfl)]
        refine ⟨.agg #[.string ⟨#[97]⟩, .slice (some ⟨P, 0, none⟩) 1 1, .bool false, .bool false, .int .i64 0, .int .i64 0, .int .i64 0, .string ⟨#[]⟩, .string ⟨#[]⟩, .string ⟨#[]⟩, .slice none 0 0], fun w' hw' => ?_, hK _ ?_⟩
        · clear hw'
          go_simp
        clear hK K
        refine wpAnyC_two 0 3 (by kernel_rfl) (fun oi ho K hK => ?_) (fun oi ho K hK => ?_)
        · simp only [List.getElem?_toArray, List.getElem?_cons_zero, Option.some.injEq] at ho
          subst ho
          go_simp
          refine (base_c U1).mono ?_
          rintro r U2 ⟨sa, rfl, sS, bU2⟩
          have hb2 := hb1.trans (bU2.mono hb1.size)
          have cD2 := cD1.on bU2 cD1.lt
          have gD2 := gD1.on bU2 gD1.lt
          have xP := xP.on bU2 xP.lt
          go_simp
          refine hK _ _ cD2 ?_
          clear hK K
          refine wpAnyC_calls 3 (by kernel_rfl) (fun oi ho K hK => ?_)
          simp only [List.getElem?_toArray, List.getElem?_cons_succ, List.getElem?_cons_zero, Option.some.injEq] at ho
          subst ho
          obtain ⟨U3, hU3⟩ : ∃ U3, U3 = U2.alloc (.cells (elB.cs ⟨some ⟨P, 0, none⟩, 1, none, 0⟩) 41) := ⟨_, rfl⟩
          have bU3 : Below U2.heap.size U2 U3 := by rw [hU3]; exact (Below.refl _ _).alloc (Nat.le_refl _) _
          have hb3 := hb2.trans (bU3.mono hb2.size)
          have cD3 := cD2.on bU3 cD2.lt
          have gD3 := gD2.on bU3 gD2.lt
          have sS := sS.on bU3
          have xP := xP.on bU3 xP.lt
          obtain ⟨Q, hQ⟩ : ∃ Q, Q = U2.heap.size := ⟨_, rfl⟩
          have xQ : Box U3 Q 41 (elB.cs ⟨some ⟨P, 0, none⟩, 1, none, 0⟩) := by rw [hU3, hQ]; exact Box.new _ _ _
          go_simp
          rw [← hQ, show U2.alloc (.cells #[.string ⟨#[97]⟩, .slice (some ⟨P, 0, none⟩) 1 1, .bool false, .bool false, .int .i64 0, .int .i64 0, .int .i64 0, .string ⟨#[]⟩, .string ⟨#[]⟩, .string ⟨#[]⟩, .slice none 0 0] 41) = U3 from hU3.symm]
          refine hK _ _ cD3 ?_
          clear hK K hU3 hQ
          have em := ems_box elB _ xQ ⟨txts_one _ xP, .nil _⟩
          have cK := hide (kind9_c (some ⟨Q, 0, none⟩) sa 1 2 baseT [elB] (some ⟨g, 0, none⟩) 2 (.mk (opD 6) [fieldT (tk [97]) (nmT i), fieldT (tk [97]) (nmT j)]) U3 sS em (lies_two _ _ gD3))
          rw [← unhide hR] at cK
          replace hb3 := hide hb3
          clear em
          refine wpAnyC_calls 5 (by kernel_rfl) (fun oi ho K hK => ?_)
          simp only [List.getElem?_toArray, List.getElem?_cons_succ, List.getElem?_cons_zero, Option.some.injEq] at ho
          subst ho
          go_simp
          refine (unhide cK).mono ?_
          rintro r U4 ⟨rfl, bU4⟩
          have hb4 := hide ((unhide hb3).trans (bU4.mono (unhide hb3).size))
          have cD4 := cD3.on bU4 cD3.lt
          dsimp only [KR.v, encK]
          go_simp
          refine hK _ _ cD4 ?_
          clear hK K cK
          refine wpAnyC_reads 6 cD4 (by kernel_rfl) (by kernel_rfl) (by kernel_rfl) (fun d _ _ _ _ h => by cases d <;> exact h) (fun oi ho K hK => ?_)
          simp only [List.getElem?_toArray, List.getElem?_cons_succ, List.getElem?_cons_zero, Option.some.injEq] at ho
          subst ho
          rw [if_pos (by kernel_rfl)]
          refine ⟨.tuple #[.int .i64 r1, errO r2], fun w' hw' => ?_, hK _ ?_⟩
          · clear hw'
            go_simp
          clear hK K
          refine wpAnyC_reads 7 cD4 (by kernel_rfl) (by kernel_rfl) (by kernel_rfl) (fun d _ _ _ _ h => by cases d <;> exact h) (fun oi ho K hK => ?_)
          simp only [List.getElem?_toArray, List.getElem?_cons_succ, List.getElem?_cons_zero, Option.some.injEq] at ho
          subst ho
          rw [if_pos (by kernel_rfl)]
          refine ⟨.int .i64 r1, fun w' hw' => ?_, hK _ ?_⟩
          · clear hw'
            go_simp
          clear hK K
          refine wpAnyC_reads 8 cD4 (by kernel_rfl) (by kernel_rfl) (by kernel_rfl) (fun d _ _ _ _ h => by cases d <;> exact h) (fun oi ho K hK => ?_)
          simp only [List.getElem?_toArray, List.getElem?_cons_succ, List.getElem?_cons_zero, Option.some.injEq] at ho
          subst ho
          rw [if_pos (by kernel_rfl)]
          refine ⟨errO r2, fun w' hw' => ?_, hK _ ?_⟩
          · clear hw'
            go_simp
          clear hK K
          refine wpAnyC_reads 9 cD4 (by kernel_rfl) (by kernel_rfl) (by kernel_rfl) (fun d _ _ _ _ h => by cases d <;> exact h) (fun oi ho K hK => ?_)
          simp only [List.getElem?_toArray, List.getElem?_cons_succ, List.getElem?_cons_zero, Option.some.injEq] at ho
          subst ho
          rw [if_pos (by kernel_rfl)]
          refine ⟨.int .i64 r1, fun w' hw' => ?_, hK _ ?_⟩
          · clear hw'
            go_simp
          clear hK K
          refine wpAnyC_reads 10 cD4 (by kernel_rfl) (by kernel_rfl) (by kernel_rfl) (fun d _ _ _ _ h => by cases d <;> exact h) (fun oi ho K hK => ?_)
          simp only [List.getElem?_toArray, List.getElem?_cons_succ, List.getElem?_cons_zero, Option.some.injEq] at ho
          subst ho
          rw [if_pos (by kernel_rfl)]
          refine ⟨errO r2, fun w' hw' => ?_, hK _ ?_⟩
          · clear hw'
            go_simp
          clear hK K
          refine wpAnyC_done (by kernel_rfl) ?_ _
          go_wp2_with fail
          go_meet
          exact ⟨⟨rfl, rfl⟩, hb4⟩
        · simp only [List.getElem?_toArray, List.getElem?_cons_succ, List.getElem?_cons_zero, Option.some.injEq] at ho
          subst ho
          obtain ⟨U2, hU2⟩ : ∃ U2, U2 = U1.alloc (.cells (elB.cs ⟨some ⟨P, 0, none⟩, 1, none, 0⟩) 41) := ⟨_, rfl⟩
          have bU2 : Below U1.heap.size U1 U2 := by rw [hU2]; exact (Below.refl _ _).alloc (Nat.le_refl _) _
          have hb2 := hb1.trans (bU2.mono hb1.size)
          have cD2 := cD1.on bU2 cD1.lt
          have gD2 := gD1.on bU2 gD1.lt
          have xP := xP.on bU2 xP.lt
          obtain ⟨Q, hQ⟩ : ∃ Q, Q = U1.heap.size := ⟨_, rfl⟩
          have xQ : Box U2 Q 41 (elB.cs ⟨some ⟨P, 0, none⟩, 1, none, 0⟩) := by rw [hU2, hQ]; exact Box.new _ _ _
          go_simp
          rw [← hQ, show U1.alloc (.cells #[.string ⟨#[97]⟩, .slice (some ⟨P, 0, none⟩) 1 1, .bool false, .bool false, .int .i64 0, .int .i64 0, .int .i64 0, .string ⟨#[]⟩, .string ⟨#[]⟩, .string ⟨#[]⟩, .slice none 0 0] 41) = U2 from hU2.symm]
          refine hK _ _ cD2 ?_
          clear hK K hU2 hQ
          refine wpAnyC_calls 0 (by kernel_rfl) (fun oi ho K hK => ?_)
          simp only [List.getElem?_toArray, List.getElem?_cons_zero, Option.some.injEq] at ho
          subst ho
          go_simp
          refine (base_c U2).mono ?_
          rintro r U3 ⟨sa, rfl, sS, bU3⟩
          have hb3 := hb2.trans (bU3.mono hb2.size)
          have cD3 := cD2.on bU3 cD2.lt
          have gD3 := gD2.on bU3 gD2.lt
          have xQ := xQ.on bU3 xQ.lt
          have xP := xP.on bU3 xP.lt
          go_simp
          refine hK _ _ cD3 ?_
          clear hK K
          have em := ems_box elB _ xQ ⟨txts_one _ xP, .nil _⟩
          have cK := hide (kind9_c (some ⟨Q, 0, none⟩) sa 1 2 baseT [elB] (some ⟨g, 0, none⟩) 2 (.mk (opD 6) [fieldT (tk [97]) (nmT i), fieldT (tk [97]) (nmT j)]) U3 sS em (lies_two _ _ gD3))
          rw [← unhide hR] at cK
          replace hb3 := hide hb3
          clear em
          refine wpAnyC_calls 5 (by kernel_rfl) (fun oi ho K hK => ?_)
          simp only [List.getElem?_toArray, List.getElem?_cons_succ, List.getElem?_cons_zero, Option.some.injEq] at ho
          subst ho
          go_simp
          refine (unhide cK).mono ?_
          rintro r U4 ⟨rfl, bU4⟩
          have hb4 := hide ((unhide hb3).trans (bU4.mono (unhide hb3).size))
          have cD4 := cD3.on bU4 cD3.lt
          dsimp only [KR.v, encK]
          go_simp
          refine hK _ _ cD4 ?_
          clear hK K cK
          refine wpAnyC_reads 6 cD4 (by kernel_rfl) (by kernel_rfl) (by kernel_rfl) (fun d _ _ _ _ h => by cases d <;> exact h) (fun oi ho K hK => ?_)
          simp only [List.getElem?_toArray, List.getElem?_cons_succ, List.getElem?_cons_zero, Option.some.injEq] at ho
          subst ho
          rw [if_pos (by kernel_rfl)]
          refine ⟨.tuple #[.int .i64 r1, errO r2], fun w' hw' => ?_, hK _ ?_⟩
          · clear hw'
            go_simp
          clear hK K
          refine wpAnyC_reads 7 cD4 (by kernel_rfl) (by kernel_rfl) (by kernel_rfl) (fun d _ _ _ _ h => by cases d <;> exact h) (fun oi ho K hK => ?_)
          simp only [List.getElem?_toArray, List.getElem?_cons_succ, List.getElem?_cons_zero, Option.some.injEq] at ho
          subst ho
          rw [if_pos (by kernel_rfl)]
          refine ⟨.int .i64 r1, fun w' hw' => ?_, hK _ ?_⟩
          · clear hw'
            go_simp
          clear hK K
          refine wpAnyC_reads 8 cD4 (by kernel_rfl) (by kernel_rfl) (by kernel_rfl) (fun d _ _ _ _ h => by cases d <;> exact h) (fun oi ho K hK => ?_)
          simp only [List.getElem?_toArray, List.getElem?_cons_succ, List.getElem?_cons_zero, Option.some.injEq] at ho
          subst ho
          rw [if_pos (by kernel_rfl)]
          refine ⟨errO r2, fun w' hw' => ?_, hK _ ?_⟩
          · clear hw'
            go_simp
          clear hK K
          refine wpAnyC_reads 9 cD4 (by kernel_rfl) (by kernel_rfl) (by kernel_rfl) (fun d _ _ _ _ h => by cases d <;> exact h) (fun oi ho K hK => ?_)
          simp only [List.getElem?_toArray, List.getElem?_cons_succ, List.getElem?_cons_zero, Option.some.injEq] at ho
          subst ho
          rw [if_pos (by kernel_rfl)]
          refine ⟨.int .i64 r1, fun w' hw' => ?_, hK _ ?_⟩
          · clear hw'
            go_simp
          clear hK K
          refine wpAnyC_reads 10 cD4 (by kernel_rfl) (by kernel_rfl) (by kernel_rfl) (fun d _ _ _ _ h => by cases d <;> exact h) (fun oi ho K hK => ?_)
          simp only [List.getElem?_toArray, List.getElem?_cons_succ, List.getElem?_cons_zero, Option.some.injEq] at ho
          subst ho
          rw [if_pos (by kernel_rfl)]
          refine ⟨errO r2, fun w' hw' => ?_, hK _ ?_⟩
          · clear hw'
            go_simp
          clear hK K
          refine wpAnyC_done (by kernel_rfl) ?_ _
          go_wp2_with fail
          go_meet
          exact ⟨⟨rfl, rfl⟩, hb4⟩
    case rest =>
      obtain ⟨⟨rfl, rfl⟩, hbd⟩ := hcut
      have hi01 : i = 0 ∨ i = 1 ∨ i = 2 := by omega
      have hj01 : j = 0 ∨ j = 1 ∨ j = 2 := by omega
      clear hiI hjI hi3 hj3 hne hwD hwB
      rcases hi01 with rfl | rfl | rfl <;> rcases hj01 with rfl | rfl | rfl
      · obtain ⟨rfl, rfl⟩ := Prod.mk.inj ((unhide hR).trans (show _ = ((3, 0) : KR) by decide +kernel))
        rw [show errO 0 = .nilIface from rfl]
        clear hR
        go_wp2_with fail
        go_ret
        exact ⟨rfl, tailB (unhide hbd)⟩
      · obtain ⟨rfl, rfl⟩ := Prod.mk.inj ((unhide hR).trans (show _ = ((0, 14) : KR) by decide +kernel))
        rw [show errO 14 = errV 14 from rfl]
        clear hR
        go_wp2_with fail
        refine (errIs_same 14 _).mono ?_
        rintro r w9 ⟨rfl, rfl⟩
        go_wp2_with fail
        go_ret
        exact ⟨rfl, tailB (unhide hbd)⟩
      · obtain ⟨rfl, rfl⟩ := Prod.mk.inj ((unhide hR).trans (show _ = ((0, 14) : KR) by decide +kernel))
        rw [show errO 14 = errV 14 from rfl]
        clear hR
        go_wp2_with fail
        refine (errIs_same 14 _).mono ?_
        rintro r w9 ⟨rfl, rfl⟩
        go_wp2_with fail
        go_ret
        exact ⟨rfl, tailB (unhide hbd)⟩
      · obtain ⟨rfl, rfl⟩ := Prod.mk.inj ((unhide hR).trans (show _ = ((0, 14) : KR) by decide +kernel))
        rw [show errO 14 = errV 14 from rfl]
        clear hR
        go_wp2_with fail
        refine (errIs_same 14 _).mono ?_
        rintro r w9 ⟨rfl, rfl⟩
        go_wp2_with fail
        go_ret
        exact ⟨rfl, tailB (unhide hbd)⟩
      · obtain ⟨rfl, rfl⟩ := Prod.mk.inj ((unhide hR).trans (show _ = ((3, 0) : KR) by decide +kernel))
        rw [show errO 0 = .nilIface from rfl]
        clear hR
        go_wp2_with fail
        go_ret
        exact ⟨rfl, tailB (unhide hbd)⟩
      · obtain ⟨rfl, rfl⟩ := Prod.mk.inj ((unhide hR).trans (show _ = ((0, 14) : KR) by decide +kernel))
        rw [show errO 14 = errV 14 from rfl]
        clear hR
        go_wp2_with fail
        refine (errIs_same 14 _).mono ?_
        rintro r w9 ⟨rfl, rfl⟩
        go_wp2_with fail
        go_ret
        exact ⟨rfl, tailB (unhide hbd)⟩
      · obtain ⟨rfl, rfl⟩ := Prod.mk.inj ((unhide hR).trans (show _ = ((0, 14) : KR) by decide +kernel))
        rw [show errO 14 = errV 14 from rfl]
        clear hR
        go_wp2_with fail
        refine (errIs_same 14 _).mono ?_
        rintro r w9 ⟨rfl, rfl⟩
        go_wp2_with fail
        go_ret
        exact ⟨rfl, tailB (unhide hbd)⟩
      · obtain ⟨rfl, rfl⟩ := Prod.mk.inj ((unhide hR).trans (show _ = ((0, 14) : KR) by decide +kernel))
        rw [show errO 14 = errV 14 from rfl]
        clear hR
        go_wp2_with fail
        refine (errIs_same 14 _).mono ?_
        rintro r w9 ⟨rfl, rfl⟩
        go_wp2_with fail
        go_ret
        exact ⟨rfl, tailB (unhide hbd)⟩
      · obtain ⟨rfl, rfl⟩ := Prod.mk.inj ((unhide hR).trans (show _ = ((3, 0) : KR) by decide +kernel))
        rw [show errO 0 = .nilIface from rfl]
        clear hR
        go_wp2_with fail
        go_ret
        exact ⟨rfl, tailB (unhide hbd)⟩
set_option maxRecDepth 100000 in
set_option maxHeartbeats 8000000 in
theorem ops3_4 (n0 n1 n2 : Int) (h0 : 0 ≤ n0) (h1 : n0 ≤ 255) (h2 : 0 ≤ n1) (h3 : n1 ≤ 255) (h4 : 0 ≤ n2) (h5 : n2 ≤ 255) (hm : n0 % 10 = 4) (w : World) : Calls Try.prog 3 #[.int .u8 n0, .int .u8 n1, .int .u8 n2] w fun e w' => e = .returned (.bool true) ∧ Below w.heap.size w w' := by
  have cK := hide (known6_c w)
  obtain ⟨i, hi3, hi⟩ : ∃ i : Nat, i < 3 ∧ n1 % 3 = (i : Int) := ⟨(n1 % 3).toNat, by omega, by omega⟩
  obtain ⟨j, hj3, hj⟩ : ∃ j : Nat, j < 3 ∧ n2 % 3 = (j : Int) := ⟨(n2 % 3).toNat, by omega, by omega⟩
  have hmx : Try.prog.follows .mixedOrders = true := by kernel_rfl
  go_enter Try.func3, Try.ntmps3
  go_wp2_with fail
  refine (unhide cK).mono ?_
  rintro r w1 ⟨rfl, hb1⟩
  clear cK
  obtain ⟨B, hB⟩ : ∃ B, B = w1.heap.size := ⟨_, rfl⟩
  obtain ⟨W2, hW2⟩ : ∃ W2, W2 = w1.alloc (.cells #[.string ⟨#[110]⟩, .string ⟨#[115]⟩, .string ⟨#[98]⟩] 23) := ⟨_, rfl⟩
  have x2 : Box W2 B 23 #[.string ⟨#[110]⟩, .string ⟨#[115]⟩, .string ⟨#[98]⟩] := by rw [hW2, hB]; exact Box.new _ _ _
  have b2 : Below w.heap.size w W2 := by rw [hW2]; exact hb1.alloc hb1.size _
  have hwB : w.heap.size ≤ B := by rw [hB]; exact hb1.size
  go_upto_region 6 with fail
  rw [← hB, ← hW2]
  clear hB hW2 hb1
  replace hm := hide hm
  replace hi := hide hi
  replace hj := hide hj
  have hiI : (i : Int) < 3 := by omega
  have hjI : (j : Int) < 3 := by omega
  go_cut [11] from 107 (fun v11 wc => Hid (OpsL w 7 (fieldD (tk [97]) (nmT i)) (fieldD (tk [97]) (nmT j)) v11 wc))
  case first =>
    obtain ⟨D0, hD0⟩ : ∃ D0, D0 = W2.drew := ⟨_, rfl⟩
    have bD : Below W2.heap.size W2 D0 := by rw [hD0]; exact (Below.refl _ _).drew
    have cD0 : Box D0 B 23 #[.string ⟨#[110]⟩, .string ⟨#[115]⟩, .string ⟨#[98]⟩] := x2.on bD x2.lt
    have hb0 : Below w.heap.size w D0 := b2.trans (bD.mono b2.size)
    refine wp_region_any hmx (wpAny_of_C (C := fun w' => Box w' B 23 #[.string ⟨#[110]⟩, .string ⟨#[115]⟩, .string ⟨#[98]⟩]) _ _ _ _ ?_)
    rw [show ({ heap := W2.heap, tape := W2.tape, drawn := W2.drawn + 1, os := W2.os, output := W2.output } : World) = D0 from hD0.symm]
    clear hD0 bD b2 x2
    refine wpAnyC_reads 0 cD0 (by kernel_rfl) (by kernel_rfl) (by kernel_rfl) (fun d _ _ _ _ h => by cases d <;> exact h) (fun oi ho K hK => ?_)
    simp only [List.getElem?_toArray, List.getElem?_cons_zero, Option.some.injEq] at ho
    subst ho
    rw [if_pos (by kernel_rfl)]
    refine ⟨.int .i64 7, fun w' hw' => ?_, hK _ ?_⟩
    · clear hw'
      go_simp
    clear hK K
    refine wpAnyC_reads 1 cD0 (by kernel_rfl) (by kernel_rfl) (by kernel_rfl) (fun d _ _ _ _ h => by cases d <;> exact h) (fun oi ho K hK => ?_)
    simp only [List.getElem?_toArray, List.getElem?_cons_succ, List.getElem?_cons_zero, Option.some.injEq] at ho
    subst ho
    rw [if_pos (by kernel_rfl)]
    refine ⟨.int .i64 i, fun w' hw' => ?_, hK _ ?_⟩
    · clear hw'
      go_simp
    clear hK K
    refine wpAnyC_reads 2 cD0 (by kernel_rfl) (by kernel_rfl) (by kernel_rfl) (fun d _ _ _ _ h => by cases d <;> exact h) (fun oi ho K hK => ?_)
    simp only [List.getElem?_toArray, List.getElem?_cons_succ, List.getElem?_cons_zero, Option.some.injEq] at ho
    subst ho
    rw [if_pos (by kernel_rfl)]
    refine ⟨.pointer (some ⟨B, i, none⟩), fun w' hw' => ?_, hK _ ?_⟩
    · clear hw'
      go_simp
    clear hK K
    refine wpAnyC_reads 3 cD0 (by kernel_rfl) (by kernel_rfl) (by kernel_rfl) (fun d _ _ _ _ h => by cases d <;> exact h) (fun oi ho K hK => ?_)
    simp only [List.getElem?_toArray, List.getElem?_cons_succ, List.getElem?_cons_zero, Option.some.injEq] at ho
    subst ho
    rw [if_pos (by kernel_rfl)]
    refine ⟨.string (nmT i).1, fun w' hw' => ?_, hK _ ?_⟩
    · have hs0 := nm_cell hw' i hi3
      have hs1 := nm_cell hw' j hj3
      go_simp
    clear hK K
    refine wpAnyC_reads 5 cD0 (by kernel_rfl) (by kernel_rfl) (by kernel_rfl) (fun d _ _ _ _ h => by cases d <;> exact h) (fun oi ho K hK => ?_)
    simp only [List.getElem?_toArray, List.getElem?_cons_succ, List.getElem?_cons_zero, Option.some.injEq] at ho
    subst ho
    rw [if_pos (by kernel_rfl)]
    refine ⟨.int .i64 j, fun w' hw' => ?_, hK _ ?_⟩
    · clear hw'
      go_simp
    clear hK K
    refine wpAnyC_reads 6 cD0 (by kernel_rfl) (by kernel_rfl) (by kernel_rfl) (fun d _ _ _ _ h => by cases d <;> exact h) (fun oi ho K hK => ?_)
    simp only [List.getElem?_toArray, List.getElem?_cons_succ, List.getElem?_cons_zero, Option.some.injEq] at ho
    subst ho
    rw [if_pos (by kernel_rfl)]
    refine ⟨.pointer (some ⟨B, j, none⟩), fun w' hw' => ?_, hK _ ?_⟩
    · clear hw'
      go_simp
    clear hK K
    refine wpAnyC_reads 7 cD0 (by kernel_rfl) (by kernel_rfl) (by kernel_rfl) (fun d _ _ _ _ h => by cases d <;> exact h) (fun oi ho K hK => ?_)
    simp only [List.getElem?_toArray, List.getElem?_cons_succ, List.getElem?_cons_zero, Option.some.injEq] at ho
    subst ho
    rw [if_pos (by kernel_rfl)]
    refine ⟨.string (nmT j).1, fun w' hw' => ?_, hK _ ?_⟩
    · have hs0 := nm_cell hw' i hi3
      have hs1 := nm_cell hw' j hj3
      go_simp
    clear hK K
    refine wpAnyC_two 4 10 (by kernel_rfl) (fun oi ho K hK => ?_) (fun oi ho K hK => ?_)
    · simp only [List.getElem?_toArray, List.getElem?_cons_succ, List.getElem?_cons_zero, Option.some.injEq] at ho
      subst ho
      go_simp
      refine (field8_c (tk [97]) (nmT i) D0).mono ?_
      rintro r U1 ⟨rfl, bU1⟩
      have hb1 := hb0.trans (bU1.mono hb0.size)
      have cD1 := cD0.on bU1 cD0.lt
      go_simp
      refine hK _ _ cD1 ?_
      clear hK K
      refine wpAnyC_two 8 10 (by kernel_rfl) (fun oi ho K hK => ?_) (fun oi ho K hK => ?_)
      · simp only [List.getElem?_toArray, List.getElem?_cons_succ, List.getElem?_cons_zero, Option.some.injEq] at ho
        subst ho
        go_simp
        refine (field8_c (tk [97]) (nmT j) U1).mono ?_
        rintro r U2 ⟨rfl, bU2⟩
        have hb2 := hb1.trans (bU2.mono hb1.size)
        have cD2 := cD1.on bU2 cD1.lt
        go_simp
        refine hK _ _ cD2 ?_
        clear hK K
        refine wpAnyC_two 9 10 (by kernel_rfl) (fun oi ho K hK => ?_) (fun oi ho K hK => ?_)
        · simp only [List.getElem?_toArray, List.getElem?_cons_succ, List.getElem?_cons_zero, Option.some.injEq] at ho
          subst ho
          go_simp
          refine (two7_c 7 (fieldD (tk [97]) (nmT i)) (fieldD (tk [97]) (nmT j)) U2).mono ?_
          rintro r U3 ⟨g, rfl, hg, xg, bU3⟩
          have hb3 := hb2.trans (bU3.mono hb2.size)
          have cD3 := cD2.on bU3 cD2.lt
          go_simp
          refine hK _ _ cD3 ?_
          clear hK K
          refine wpAnyC_calls 10 (by kernel_rfl) (fun oi ho K hK => ?_)
          simp only [List.getElem?_toArray, List.getElem?_cons_succ, List.getElem?_cons_zero, Option.some.injEq] at ho
          subst ho
          go_simp
          obtain ⟨U4, hU4⟩ : ∃ U4, U4 = U3.alloc (.cells zero28 28) := ⟨_, rfl⟩
          have bU4 : Below U3.heap.size U3 U4 := by rw [hU4]; exact (Below.refl _ _).alloc (Nat.le_refl _) _
          have hb4 := hb3.trans (bU4.mono hb3.size)
          have cD4 := cD3.on bU4 cD3.lt
          obtain ⟨D, hD⟩ : ∃ D, D = U3.heap.size := ⟨_, rfl⟩
          have xD4 : Box U4 D 28 zero28 := by rw [hU4, hD]; exact Box.new _ _ _
          have hwD : w.heap.size ≤ D := by rw [hD]; exact hb3.size
          have hBD : B < D := by rw [hD]; exact cD3.lt
          have hne : D ≠ g := by have := xg.lt; omega
          have xg := xg.on bU4 xg.lt
          rw [← hD, ← hU4]
          refine hK _ _ cD4 ?_
          clear hK K hU4 hD
          have hf0 := xD4.frz
          obtain ⟨z0, z1, z2, z3, z4, z5, z6⟩ := xD4.seven
          have hst := fun W' hW => store7 (D := D) (g := g) 7 xD4 xg hne (some ⟨g, 0, none⟩) W' hW
          replace hst := hide hst
          replace hb4 := hide hb4
          have z7 := hf0 0
          have z8 := hf0 1
          have z9 := hf0 2
          have z10 := hf0 3
          have z11 := hf0 4
          have z12 := hf0 5
          have z13 := hf0 6
          clear hf0
          refine wpAnyC_calls 11 (by kernel_rfl) (fun oi ho K hK => ?_)
          simp only [List.getElem?_toArray, List.getElem?_cons_succ, List.getElem?_cons_zero, Option.some.injEq] at ho
          subst ho
          go_simp
          have hq := unhide hst _ rfl
          refine hK _ _ ?_ ?_
          · have := cD4
            exact ((((((this.other _ _ (by simp only; omega)).other _ _ (by simp only; omega)).other _ _ (by simp only; omega)).other _ _ (by simp only; omega)).other _ _ (by simp only; omega)).other _ _ (by simp only; omega)).other _ _ (by simp only; omega)
          clear hK K
          refine wpAnyC_done (by kernel_rfl) ?_ _
          go_wp2_with fail
          go_meet
          exact ⟨⟨D, g, rfl, hq.1, hq.2.1, hne, hwD⟩, hq.2.2 _ _ hwD (unhide hb4)⟩
        · simp only [List.getElem?_toArray, List.getElem?_cons_succ, List.getElem?_cons_zero, Option.some.injEq] at ho
          subst ho
          go_simp
          obtain ⟨U3, hU3⟩ : ∃ U3, U3 = U2.alloc (.cells zero28 28) := ⟨_, rfl⟩
          have bU3 : Below U2.heap.size U2 U3 := by rw [hU3]; exact (Below.refl _ _).alloc (Nat.le_refl _) _
          have hb3 := hb2.trans (bU3.mono hb2.size)
          have cD3 := cD2.on bU3 cD2.lt
          obtain ⟨D, hD⟩ : ∃ D, D = U2.heap.size := ⟨_, rfl⟩
          have xD3 : Box U3 D 28 zero28 := by rw [hU3, hD]; exact Box.new _ _ _
          have hwD : w.heap.size ≤ D := by rw [hD]; exact hb2.size
          have hBD : B < D := by rw [hD]; exact cD2.lt
          rw [← hD, ← hU3]
          refine hK _ _ cD3 ?_
          clear hK K hU3 hD
          refine wpAnyC_calls 9 (by kernel_rfl) (fun oi ho K hK => ?_)
          simp only [List.getElem?_toArray, List.getElem?_cons_succ, List.getElem?_cons_zero, Option.some.injEq] at ho
          subst ho
          go_simp
          refine (two7_c 7 (fieldD (tk [97]) (nmT i)) (fieldD (tk [97]) (nmT j)) U3).mono ?_
          rintro r U4 ⟨g, rfl, hg, xg, bU4⟩
          have hne : D ≠ g := by have := xD3.lt; omega
          have hb4 := hb3.trans (bU4.mono hb3.size)
          have cD4 := cD3.on bU4 cD3.lt
          have xD4 := xD3.on bU4 xD3.lt
          go_simp
          refine hK _ _ cD4 ?_
          clear hK K
          have hf0 := xD4.frz
          obtain ⟨z0, z1, z2, z3, z4, z5, z6⟩ := xD4.seven
          have hst := fun W' hW => store7 (D := D) (g := g) 7 xD4 xg hne (some ⟨g, 0, none⟩) W' hW
          replace hst := hide hst
          replace hb4 := hide hb4
          have z7 := hf0 0
          have z8 := hf0 1
          have z9 := hf0 2
          have z10 := hf0 3
          have z11 := hf0 4
          have z12 := hf0 5
          have z13 := hf0 6
          clear hf0
          refine wpAnyC_calls 11 (by kernel_rfl) (fun oi ho K hK => ?_)
          simp only [List.getElem?_toArray, List.getElem?_cons_succ, List.getElem?_cons_zero, Option.some.injEq] at ho
          subst ho
          go_simp
          have hq := unhide hst _ rfl
          refine hK _ _ ?_ ?_
          · have := cD4
            exact ((((((this.other _ _ (by simp only; omega)).other _ _ (by simp only; omega)).other _ _ (by simp only; omega)).other _ _ (by simp only; omega)).other _ _ (by simp only; omega)).other _ _ (by simp only; omega)).other _ _ (by simp only; omega)
          clear hK K
          refine wpAnyC_done (by kernel_rfl) ?_ _
          go_wp2_with fail
          go_meet
          exact ⟨⟨D, g, rfl, hq.1, hq.2.1, hne, hwD⟩, hq.2.2 _ _ hwD (unhide hb4)⟩
      · simp only [List.getElem?_toArray, List.getElem?_cons_succ, List.getElem?_cons_zero, Option.some.injEq] at ho
        subst ho
        go_simp
        obtain ⟨U2, hU2⟩ : ∃ U2, U2 = U1.alloc (.cells zero28 28) := ⟨_, rfl⟩
        have bU2 : Below U1.heap.size U1 U2 := by rw [hU2]; exact (Below.refl _ _).alloc (Nat.le_refl _) _
        have hb2 := hb1.trans (bU2.mono hb1.size)
        have cD2 := cD1.on bU2 cD1.lt
        obtain ⟨D, hD⟩ : ∃ D, D = U1.heap.size := ⟨_, rfl⟩
        have xD2 : Box U2 D 28 zero28 := by rw [hU2, hD]; exact Box.new _ _ _
        have hwD : w.heap.size ≤ D := by rw [hD]; exact hb1.size
        have hBD : B < D := by rw [hD]; exact cD1.lt
        rw [← hD, ← hU2]
        refine hK _ _ cD2 ?_
        clear hK K hU2 hD
        refine wpAnyC_calls 8 (by kernel_rfl) (fun oi ho K hK => ?_)
        simp only [List.getElem?_toArray, List.getElem?_cons_succ, List.getElem?_cons_zero, Option.some.injEq] at ho
        subst ho
        go_simp
        refine (field8_c (tk [97]) (nmT j) U2).mono ?_
        rintro r U3 ⟨rfl, bU3⟩
        have hb3 := hb2.trans (bU3.mono hb2.size)
        have cD3 := cD2.on bU3 cD2.lt
        have xD3 := xD2.on bU3 xD2.lt
        go_simp
        refine hK _ _ cD3 ?_
        clear hK K
        refine wpAnyC_calls 9 (by kernel_rfl) (fun oi ho K hK => ?_)
        simp only [List.getElem?_toArray, List.getElem?_cons_succ, List.getElem?_cons_zero, Option.some.injEq] at ho
        subst ho
        go_simp
        refine (two7_c 7 (fieldD (tk [97]) (nmT i)) (fieldD (tk [97]) (nmT j)) U3).mono ?_
        rintro r U4 ⟨g, rfl, hg, xg, bU4⟩
        have hne : D ≠ g := by have := xD3.lt; omega
        have hb4 := hb3.trans (bU4.mono hb3.size)
        have cD4 := cD3.on bU4 cD3.lt
        have xD4 := xD3.on bU4 xD3.lt
        go_simp
        refine hK _ _ cD4 ?_
        clear hK K
        have hf0 := xD4.frz
        obtain ⟨z0, z1, z2, z3, z4, z5, z6⟩ := xD4.seven
        have hst := fun W' hW => store7 (D := D) (g := g) 7 xD4 xg hne (some ⟨g, 0, none⟩) W' hW
        replace hst := hide hst
        replace hb4 := hide hb4
        have z7 := hf0 0
        have z8 := hf0 1
        have z9 := hf0 2
        have z10 := hf0 3
        have z11 := hf0 4
        have z12 := hf0 5
        have z13 := hf0 6
        clear hf0
        refine wpAnyC_calls 11 (by kernel_rfl) (fun oi ho K hK => ?_)
        simp only [List.getElem?_toArray, List.getElem?_cons_succ, List.getElem?_cons_zero, Option.some.injEq] at ho
        subst ho
        go_simp
        have hq := unhide hst _ rfl
        refine hK _ _ ?_ ?_
        · have := cD4
          exact ((((((this.other _ _ (by simp only; omega)).other _ _ (by simp only; omega)).other _ _ (by simp only; omega)).other _ _ (by simp only; omega)).other _ _ (by simp only; omega)).other _ _ (by simp only; omega)).other _ _ (by simp only; omega)
        clear hK K
        refine wpAnyC_done (by kernel_rfl) ?_ _
        go_wp2_with fail
        go_meet
        exact ⟨⟨D, g, rfl, hq.1, hq.2.1, hne, hwD⟩, hq.2.2 _ _ hwD (unhide hb4)⟩
    · simp only [List.getElem?_toArray, List.getElem?_cons_succ, List.getElem?_cons_zero, Option.some.injEq] at ho
      subst ho
      go_simp
      obtain ⟨U1, hU1⟩ : ∃ U1, U1 = D0.alloc (.cells zero28 28) := ⟨_, rfl⟩
      have bU1 : Below D0.heap.size D0 U1 := by rw [hU1]; exact (Below.refl _ _).alloc (Nat.le_refl _) _
      have hb1 := hb0.trans (bU1.mono hb0.size)
      have cD1 := cD0.on bU1 cD0.lt
      obtain ⟨D, hD⟩ : ∃ D, D = D0.heap.size := ⟨_, rfl⟩
      have xD1 : Box U1 D 28 zero28 := by rw [hU1, hD]; exact Box.new _ _ _
      have hwD : w.heap.size ≤ D := by rw [hD]; exact hb0.size
      have hBD : B < D := by rw [hD]; exact cD0.lt
      rw [← hD, ← hU1]
      refine hK _ _ cD1 ?_
      clear hK K hU1 hD
      refine wpAnyC_calls 4 (by kernel_rfl) (fun oi ho K hK => ?_)
      simp only [List.getElem?_toArray, List.getElem?_cons_succ, List.getElem?_cons_zero, Option.some.injEq] at ho
      subst ho
      go_simp
      refine (field8_c (tk [97]) (nmT i) U1).mono ?_
      rintro r U2 ⟨rfl, bU2⟩
      have hb2 := hb1.trans (bU2.mono hb1.size)
      have cD2 := cD1.on bU2 cD1.lt
      have xD2 := xD1.on bU2 xD1.lt
      go_simp
      refine hK _ _ cD2 ?_
      clear hK K
      refine wpAnyC_calls 8 (by kernel_rfl) (fun oi ho K hK => ?_)
      simp only [List.getElem?_toArray, List.getElem?_cons_succ, List.getElem?_cons_zero, Option.some.injEq] at ho
      subst ho
      go_simp
      refine (field8_c (tk [97]) (nmT j) U2).mono ?_
      rintro r U3 ⟨rfl, bU3⟩
      have hb3 := hb2.trans (bU3.mono hb2.size)
      have cD3 := cD2.on bU3 cD2.lt
      have xD3 := xD2.on bU3 xD2.lt
      go_simp
      refine hK _ _ cD3 ?_
      clear hK K
      refine wpAnyC_calls 9 (by kernel_rfl) (fun oi ho K hK => ?_)
      simp only [List.getElem?_toArray, List.getElem?_cons_succ, List.getElem?_cons_zero, Option.some.injEq] at ho
      subst ho
      go_simp
      refine (two7_c 7 (fieldD (tk [97]) (nmT i)) (fieldD (tk [97]) (nmT j)) U3).mono ?_
      rintro r U4 ⟨g, rfl, hg, xg, bU4⟩
      have hne : D ≠ g := by have := xD3.lt; omega
      have hb4 := hb3.trans (bU4.mono hb3.size)
      have cD4 := cD3.on bU4 cD3.lt
      have xD4 := xD3.on bU4 xD3.lt
      go_simp
      refine hK _ _ cD4 ?_
      clear hK K
      have hf0 := xD4.frz
      obtain ⟨z0, z1, z2, z3, z4, z5, z6⟩ := xD4.seven
      have hst := fun W' hW => store7 (D := D) (g := g) 7 xD4 xg hne (some ⟨g, 0, none⟩) W' hW
      replace hst := hide hst
      replace hb4 := hide hb4
      have z7 := hf0 0
      have z8 := hf0 1
      have z9 := hf0 2
      have z10 := hf0 3
      have z11 := hf0 4
      have z12 := hf0 5
      have z13 := hf0 6
      clear hf0
      refine wpAnyC_calls 11 (by kernel_rfl) (fun oi ho K hK => ?_)
      simp only [List.getElem?_toArray, List.getElem?_cons_succ, List.getElem?_cons_zero, Option.some.injEq] at ho
      subst ho
      go_simp
      have hq := unhide hst _ rfl
      refine hK _ _ ?_ ?_
      · have := cD4
        exact ((((((this.other _ _ (by simp only; omega)).other _ _ (by simp only; omega)).other _ _ (by simp only; omega)).other _ _ (by simp only; omega)).other _ _ (by simp only; omega)).other _ _ (by simp only; omega)).other _ _ (by simp only; omega)
      clear hK K
      refine wpAnyC_done (by kernel_rfl) ?_ _
      go_wp2_with fail
      go_meet
      exact ⟨⟨D, g, rfl, hq.1, hq.2.1, hne, hwD⟩, hq.2.2 _ _ hwD (unhide hb4)⟩
  case rest =>
    replace hcut := unhide hcut
    obtain ⟨⟨D, g, rfl, xD, xg, hne, hwD⟩, hbw⟩ := hcut
    obtain ⟨q0, q1, q2, q3, q4, q5, q6⟩ := xD.seven
    have hf6 := xD.frz 6
    go_upto_region 9 with fail
    obtain ⟨W5, hW5⟩ : ∃ W5, W5 = wc := ⟨_, rfl⟩
    rw [← hW5] at xD xg hbw ⊢
    have x5 := xD
    have g5 := xg
    have b5 := hbw
    clear hW5 xD xg hbw
    clear q0 q1 q2 q3 q4 q5 q6 hf6
    obtain ⟨⟨r1, r2⟩, hR⟩ : ∃ R, R = kindP baseT [elB] (.mk (opD 7) [fieldT (tk [97]) (nmT i), fieldT (tk [97]) (nmT j)]) := ⟨_, rfl⟩
    replace hR := hide hR
    go_cut [12, 13] from 107 (fun v12 v13 wd => (v12 = .int .i64 r1 ∧ v13 = errO r2) ∧ Hid (Below w.heap.size w wd))
    case first =>
      obtain ⟨D0, hD0⟩ : ∃ D0, D0 = W5.drew := ⟨_, rfl⟩
      have bD : Below W5.heap.size W5 D0 := by rw [hD0]; exact (Below.refl _ _).drew
      have cD0 : Box D0 D 28 ((opD 7).cs (some ⟨g, 0, none⟩) 2 2) := x5.on bD x5.lt
      have gD0 := g5.on bD g5.lt
      have hb0 : Below w.heap.size w D0 := b5.trans (bD.mono b5.size)
      refine wp_region_any hmx (wpAny_of_C (C := fun w' => Box w' D 28 ((opD 7).cs (some ⟨g, 0, none⟩) 2 2)) _ _ _ _ ?_)
      rw [show ({ heap := W5.heap, tape := W5.tape, drawn := W5.drawn + 1, os := W5.os, output := W5.output } : World) = D0 from hD0.symm]
      clear hD0 bD b5 x5 g5
      refine wpAnyC_reads 4 cD0 (by kernel_rfl) (by kernel_rfl) (by kernel_rfl) (fun d _ _ _ _ h => by cases d <;> exact h) (fun oi ho K hK => ?_)
      simp only [List.getElem?_toArray, List.getElem?_cons_succ, List.getElem?_cons_zero, Option.some.injEq] at ho
      subst ho
      rw [if_pos (by kernel_rfl)]
      refine ⟨(opD 7).v (some ⟨g, 0, none⟩) 2 2, fun w' hw' => ?_, hK _ ?_⟩
      · obtain ⟨hs0, hs1, hs2, hs3, hs4, hs5, hs6⟩ := Box.seven hw'
        go_simp
      clear hK K
      refine wpAnyC_two 0 1 (by kernel_rfl) (fun oi ho K hK => ?_) (fun oi ho K hK => ?_)
      · simp only [List.getElem?_toArray, List.getElem?_cons_zero, Option.some.injEq] at ho
        subst ho
        go_simp
        refine (base_c D0).mono ?_
        rintro r U1 ⟨sa, rfl, sS, bU1⟩
        have hb1 := hb0.trans (bU1.mono hb0.size)
        have cD1 := cD0.on bU1 cD0.lt
        have gD1 := gD0.on bU1 gD0.lt
        go_simp
        refine hK _ _ cD1 ?_
        clear hK K
        refine wpAnyC_calls 1 (by kernel_rfl) (fun oi ho K hK => ?_)
        simp only [List.getElem?_toArray, List.getElem?_cons_succ, List.getElem?_cons_zero, Option.some.injEq] at ho
        subst ho
        obtain ⟨U2, hU2⟩ : ∃ U2, U2 = U1.alloc (.cells #[.string ⟨#[116]⟩] 9) := ⟨_, rfl⟩
        have bU2 : Below U1.heap.size U1 U2 := by rw [hU2]; exact (Below.refl _ _).alloc (Nat.le_refl _) _
        have hb2 := hb1.trans (bU2.mono hb1.size)
        have cD2 := cD1.on bU2 cD1.lt
        have gD2 := gD1.on bU2 gD1.lt
        have sS := sS.on bU2
        obtain ⟨P, hP⟩ : ∃ P, P = U1.heap.size := ⟨_, rfl⟩
        have xP : Box U2 P 9 #[.string (tk [116]).1] := by rw [hU2, hP]; exact Box.new _ _ _
        go_simp
        rw [← hP, ← hU2]
        refine hK _ _ cD2 ?_
        clear hK K hU2 hP
        refine wpAnyC_reads 2 cD2 (by kernel_rfl) (by kernel_rfl) (by kernel_rfl) (fun d _ _ _ _ h => by cases d <;> exact h) (fun oi ho K hK => ?_)
        simp only [List.getElem?_toArray, List.getElem?_cons_succ, List.getElem?_cons_zero, Option.some.injEq] at ho
        subst ho
        rw [if_pos (by kernel_rfl)]
        refine ⟨.agg #[.string ⟨#[97]⟩, .slice (some ⟨P, 0, none⟩) 1 1, .bool false, .bool false, .int .i64 0, .int .i64 0, .int .i64 0, .string ⟨#[]⟩, .string ⟨#[]⟩, .string ⟨#[]⟩, .slice none 0 0], fun w' hw' => ?_, hK _ ?_⟩
        · clear hw'
          go_simp
        clear hK K
        refine wpAnyC_calls 3 (by kernel_rfl) (fun oi ho K hK => ?_)
        simp only [List.getElem?_toArray, List.getElem?_cons_succ, List.getElem?_cons_zero, Option.some.injEq] at ho
        subst ho
        obtain ⟨U3, hU3⟩ : ∃ U3, U3 = U2.alloc (.cells (elB.cs ⟨some ⟨P, 0, none⟩, 1, none, 0⟩) 41) := ⟨_, rfl⟩
        have bU3 : Below U2.heap.size U2 U3 := by rw [hU3]; exact (Below.refl _ _).alloc (Nat.le_refl _) _
        have hb3 := hb2.trans (bU3.mono hb2.size)
        have cD3 := cD2.on bU3 cD2.lt
        have gD3 := gD2.on bU3 gD2.lt
        have sS := sS.on bU3
        have xP := xP.on bU3 xP.lt
        obtain ⟨Q, hQ⟩ : ∃ Q, Q = U2.heap.size := ⟨_, rfl⟩
        have xQ : Box U3 Q 41 (elB.cs ⟨some ⟨P, 0, none⟩, 1, none, 0⟩) := by rw [hU3, hQ]; exact Box.new _ _ _
        go_simp
        rw [← hQ, show U2.alloc (.cells #[.string ⟨#[97]⟩, .slice (some ⟨P, 0, none⟩) 1 1, .bool false, .bool false, .int .i64 0, .int .i64 0, .int .i64 0, .string ⟨#[]⟩, .string ⟨#[]⟩, .string ⟨#[]⟩, .slice none 0 0] 41) = U3 from hU3.symm]
        refine hK _ _ cD3 ?_
        clear hK K hU3 hQ
        have em := ems_box elB _ xQ ⟨txts_one _ xP, .nil _⟩
        have cK := hide (kind9_c (some ⟨Q, 0, none⟩) sa 1 2 baseT [elB] (some ⟨g, 0, none⟩) 2 (.mk (opD 7) [fieldT (tk [97]) (nmT i), fieldT (tk [97]) (nmT j)]) U3 sS em (lies_two _ _ gD3))
        rw [← unhide hR] at cK
        replace hb3 := hide hb3
        clear em
        refine wpAnyC_calls 5 (by kernel_rfl) (fun oi ho K hK => ?_)
        simp only [List.getElem?_toArray, List.getElem?_cons_succ, List.getElem?_cons_zero, Option.some.injEq] at ho
        subst ho
        go_simp
        refine (unhide cK).mono ?_
        rintro r U4 ⟨rfl, bU4⟩
        have hb4 := hide ((unhide hb3).trans (bU4.mono (unhide hb3).size))
        have cD4 := cD3.on bU4 cD3.lt
        dsimp only [KR.v, encK]
        go_simp
        refine hK _ _ cD4 ?_
        clear hK K cK
        refine wpAnyC_reads 6 cD4 (by kernel_rfl) (by kernel_rfl) (by kernel_rfl) (fun d _ _ _ _ h => by cases d <;> exact h) (fun oi ho K hK => ?_)
        simp only [List.getElem?_toArray, List.getElem?_cons_succ, List.getElem?_cons_zero, Option.some.injEq] at ho
        subst ho
        rw [if_pos (by kernel_rfl)]
        refine ⟨.tuple #[.int .i64 r1, errO r2], fun w' hw' => ?_, hK _ ?_⟩
        · clear hw'
          go_simp
        clear hK K
        refine wpAnyC_reads 7 cD4 (by kernel_rfl) (by kernel_rfl) (by kernel_rfl) (fun d _ _ _ _ h => by cases d <;> exact h) (fun oi ho K hK => ?_)
        simp only [List.getElem?_toArray, List.getElem?_cons_succ, List.getElem?_cons_zero, Option.some.injEq] at ho
        subst ho
        rw [if_pos (by kernel_rfl)]
        refine ⟨.int .i64 r1, fun w' hw' => ?_, hK _ ?_⟩
        · clear hw'
          go_simp
        clear hK K
        refine wpAnyC_reads 8 cD4 (by kernel_rfl) (by kernel_rfl) (by kernel_rfl) (fun d _ _ _ _ h => by cases d <;> exact h) (fun oi ho K hK => ?_)
        simp only [List.getElem?_toArray, List.getElem?_cons_succ, List.getElem?_cons_zero, Option.some.injEq] at ho
        subst ho
        rw [if_pos (by kernel_rfl)]
        refine ⟨errO r2, fun w' hw' => ?_, hK _ ?_⟩
        · clear hw'
          go_simp
        clear hK K
        refine wpAnyC_reads 9 cD4 (by kernel_rfl) (by kernel_rfl) (by kernel_rfl) (fun d _ _ _ _ h => by cases d <;> exact h) (fun oi ho K hK => ?_)
        simp only [List.getElem?_toArray, List.getElem?_cons_succ, List.getElem?_cons_zero, Option.some.injEq] at ho
        subst ho
        rw [if_pos (by kernel_rfl)]
        refine ⟨.int .i64 r1, fun w' hw' => ?_, hK _ ?_⟩
        · clear hw'
          go_simp
        clear hK K
        refine wpAnyC_reads 10 cD4 (by kernel_rfl) (by kernel_rfl) (by kernel_rfl) (fun d _ _ _ _ h => by cases d <;> exact h) (fun oi ho K hK => ?_)
        simp only [List.getElem?_toArray, List.getElem?_cons_succ, List.getElem?_cons_zero, Option.some.injEq] at ho
        subst ho
        rw [if_pos (by kernel_rfl)]
        refine ⟨errO r2, fun w' hw' => ?_, hK _ ?_⟩
        · clear hw'
          go_simp
        clear hK K
        refine wpAnyC_done (by kernel_rfl) ?_ _
        go_wp2_with fail
        go_meet
        exact ⟨⟨rfl, rfl⟩, hb4⟩
      · simp only [List.getElem?_toArray, List.getElem?_cons_succ, List.getElem?_cons_zero, Option.some.injEq] at ho
        subst ho
        obtain ⟨U1, hU1⟩ : ∃ U1, U1 = D0.alloc (.cells #[.string ⟨#[116]⟩] 9) := ⟨_, rfl⟩
        have bU1 : Below D0.heap.size D0 U1 := by rw [hU1]; exact (Below.refl _ _).alloc (Nat.le_refl _) _
        have hb1 := hb0.trans (bU1.mono hb0.size)
        have cD1 := cD0.on bU1 cD0.lt
        have gD1 := gD0.on bU1 gD0.lt
        obtain ⟨P, hP⟩ : ∃ P, P = D0.heap.size := ⟨_, rfl⟩
        have xP : Box U1 P 9 #[.string (tk [116]).1] := by rw [hU1, hP]; exact Box.new _ _ _
        go_simp
        rw [← hP, ← hU1]
        refine hK _ _ cD1 ?_
        clear hK K hU1 hP
        refine wpAnyC_reads 2 cD1 (by kernel_rfl) (by kernel_rfl) (by kernel_rfl) (fun d _ _ _ _ h => by cases d <;> exact h) (fun oi ho K hK => ?_)
        simp only [List.getElem?_toArray, List.getElem?_cons_succ, List.getElem?_cons_zero, Option.some.injEq] at ho
        subst ho
        rw [if_pos (by kernel_rfl)]
        refine ⟨.agg #[.string ⟨#[97]⟩, .slice (some ⟨P, 0, none⟩) 1 1, .bool false, .bool false, .int .i64 0, .int .i64 0, .int .i64 0, .string ⟨#[]⟩, .string ⟨#[]⟩, .string ⟨#[]⟩, .slice none 0 0], fun w' hw' => ?_, hK _ ?_⟩
        · clear hw'
          go_simp
        clear hK K
        refine wpAnyC_two 0 3 (by kernel_rfl) (fun oi ho K hK => ?_) (fun oi ho K hK => ?_)
        · simp only [List.getElem?_toArray, List.getElem?_cons_zero, Option.some.injEq] at ho
          subst ho
          go_simp
          refine (base_c U1).mono ?_
          rintro r U2 ⟨sa, rfl, sS, bU2⟩
          have hb2 := hb1.trans (bU2.mono hb1.size)
          have cD2 := cD1.on bU2 cD1.lt
          have gD2 := gD1.on bU2 gD1.lt
          have xP := xP.on bU2 xP.lt
          go_simp
          refine hK _ _ cD2 ?_
          clear hK K
          refine wpAnyC_calls 3 (by kernel_rfl) (fun oi ho K hK => ?_)
          simp only [List.getElem?_toArray, List.getElem?_cons_succ, List.getElem?_cons_zero, Option.some.injEq] at ho
          subst ho
          obtain ⟨U3, hU3⟩ : ∃ U3, U3 = U2.alloc (.cells (elB.cs ⟨some ⟨P, 0, none⟩, 1, none, 0⟩) 41) := ⟨_, rfl⟩
          have bU3 : Below U2.heap.size U2 U3 := by rw [hU3]; exact (Below.refl _ _).alloc (Nat.le_refl _) _
          have hb3 := hb2.trans (bU3.mono hb2.size)
          have cD3 := cD2.on bU3 cD2.lt
          have gD3 := gD2.on bU3 gD2.lt
          have sS := sS.on bU3
          have xP := xP.on bU3 xP.lt
          obtain ⟨Q, hQ⟩ : ∃ Q, Q = U2.heap.size := ⟨_, rfl⟩
          have xQ : Box U3 Q 41 (elB.cs ⟨some ⟨P, 0, none⟩, 1, none, 0⟩) := by rw [hU3, hQ]; exact Box.new _ _ _
          go_simp
          rw [← hQ, show U2.alloc (.cells #[.string ⟨#[97]⟩, .slice (some ⟨P, 0, none⟩) 1 1, .bool false, .bool false, .int .i64 0, .int .i64 0, .int .i64 0, .string ⟨#[]⟩, .string ⟨#[]⟩, .string ⟨#[]⟩, .slice none 0 0] 41) = U3 from hU3.symm]
          refine hK _ _ cD3 ?_
          clear hK K hU3 hQ
          have em := ems_box elB _ xQ ⟨txts_one _ xP, .nil _⟩
          have cK := hide (kind9_c (some ⟨Q, 0, none⟩) sa 1 2 baseT [elB] (some ⟨g, 0, none⟩) 2 (.mk (opD 7) [fieldT (tk [97]) (nmT i), fieldT (tk [97]) (nmT j)]) U3 sS em (lies_two _ _ gD3))
          rw [← unhide hR] at cK
          replace hb3 := hide hb3
          clear em
          refine wpAnyC_calls 5 (by kernel_rfl) (fun oi ho K hK => ?_)
          simp only [List.getElem?_toArray, List.getElem?_cons_succ, List.getElem?_cons_zero, Option.some.injEq] at ho
          subst ho
          go_simp
          refine (unhide cK).mono ?_
          rintro r U4 ⟨rfl, bU4⟩
          have hb4 := hide ((unhide hb3).trans (bU4.mono (unhide hb3).size))
          have cD4 := cD3.on bU4 cD3.lt
          dsimp only [KR.v, encK]
          go_simp
          refine hK _ _ cD4 ?_
          clear hK K cK
          refine wpAnyC_reads 6 cD4 (by kernel_rfl) (by kernel_rfl) (by kernel_rfl) (fun d _ _ _ _ h => by cases d <;> exact h) (fun oi ho K hK => ?_)
          simp only [List.getElem?_toArray, List.getElem?_cons_succ, List.getElem?_cons_zero, Option.some.injEq] at ho
          subst ho
          rw [if_pos (by kernel_rfl)]
          refine ⟨.tuple #[.int .i64 r1, errO r2], fun w' hw' => ?_, hK _ ?_⟩
          · clear hw'
            go_simp
          clear hK K
          refine wpAnyC_reads 7 cD4 (by kernel_rfl) (by kernel_rfl) (by kernel_rfl) (fun d _ _ _ _ h => by cases d <;> exact h) (fun oi ho K hK => ?_)
          simp only [List.getElem?_toArray, List.getElem?_cons_succ, List.getElem?_cons_zero, Option.some.injEq] at ho
          subst ho
          rw [if_pos (by kernel_rfl)]
          refine ⟨.int .i64 r1, fun w' hw' => ?_, hK _ ?_⟩
          · clear hw'
            go_simp
          clear hK K
          refine wpAnyC_reads 8 cD4 (by kernel_rfl) (by kernel_rfl) (by kernel_rfl) (fun d _ _ _ _ h => by cases d <;> exact h) (fun oi ho K hK => ?_)
          simp only [List.getElem?_toArray, List.getElem?_cons_succ, List.getElem?_cons_zero, Option.some.injEq] at ho
          subst ho
          rw [if_pos (by kernel_rfl)]
          refine ⟨errO r2, fun w' hw' => ?_, hK _ ?_⟩
          · clear hw'
            go_simp
          clear hK K
          refine wpAnyC_reads 9 cD4 (by kernel_rfl) (by kernel_rfl) (by kernel_rfl) (fun d _ _ _ _ h => by cases d <;> exact h) (fun oi ho K hK => ?_)
          simp only [List.getElem?_toArray, List.getElem?_cons_succ, List.getElem?_cons_zero, Option.some.injEq] at ho
          subst ho
          rw [if_pos (by kernel_rfl)]
          refine ⟨.int .i64 r1, fun w' hw' => ?_, hK _ ?_⟩
          · clear hw'
            go_simp
          clear hK K
          refine wpAnyC_reads 10 cD4 (by kernel_rfl) (by kernel_rfl) (by kernel_rfl) (fun d _ _ _ _ h => by cases d <;> exact h) (fun oi ho K hK => ?_)
          simp only [List.getElem?_toArray, List.getElem?_cons_succ, List.getElem?_cons_zero, Option.some.injEq] at ho
          subst ho
          rw [if_pos (by kernel_rfl)]
          refine ⟨errO r2, fun w' hw' => ?_, hK _ ?_⟩
          · clear hw'
            go_simp
          clear hK K
          refine wpAnyC_done (by kernel_rfl) ?_ _
          go_wp2_with fail
          go_meet
          exact ⟨⟨rfl, rfl⟩, hb4⟩
        · simp only [List.getElem?_toArray, List.getElem?_cons_succ, List.getElem?_cons_zero, Option.some.injEq] at ho
          subst ho
          obtain ⟨U2, hU2⟩ : ∃ U2, U2 = U1.alloc (.cells (elB.cs ⟨some ⟨P, 0, none⟩, 1, none, 0⟩) 41) := ⟨_, rfl⟩
          have bU2 : Below U1.heap.size U1 U2 := by rw [hU2]; exact (Below.refl _ _).alloc (Nat.le_refl _) _
          have hb2 := hb1.trans (bU2.mono hb1.size)
          have cD2 := cD1.on bU2 cD1.lt
          have gD2 := gD1.on bU2 gD1.lt
          have xP := xP.on bU2 xP.lt
          obtain ⟨Q, hQ⟩ : ∃ Q, Q = U1.heap.size := ⟨_, rfl⟩
          have xQ : Box U2 Q 41 (elB.cs ⟨some ⟨P, 0, none⟩, 1, none, 0⟩) := by rw [hU2, hQ]; exact Box.new _ _ _
          go_simp
          rw [← hQ, show U1.alloc (.cells #[.string ⟨#[97]⟩, .slice (some ⟨P, 0, none⟩) 1 1, .bool false, .bool false, .int .i64 0, .int .i64 0, .int .i64 0, .string ⟨#[]⟩, .string ⟨#[]⟩, .string ⟨#[]⟩, .slice none 0 0] 41) = U2 from hU2.symm]
          refine hK _ _ cD2 ?_
          clear hK K hU2 hQ
          refine wpAnyC_calls 0 (by kernel_rfl) (fun oi ho K hK => ?_)
          simp only [List.getElem?_toArray, List.getElem?_cons_zero, Option.some.injEq] at ho
          subst ho
          go_simp
          refine (base_c U2).mono ?_
          rintro r U3 ⟨sa, rfl, sS, bU3⟩
          have hb3 := hb2.trans (bU3.mono hb2.size)
          have cD3 := cD2.on bU3 cD2.lt
          have gD3 := gD2.on bU3 gD2.lt
          have xQ := xQ.on bU3 xQ.lt
          have xP := xP.on bU3 xP.lt
          go_simp
          refine hK _ _ cD3 ?_
          clear hK K
          have em := ems_box elB _ xQ ⟨txts_one _ xP, .nil _⟩
          have cK := hide (kind9_c (some ⟨Q, 0, none⟩) sa 1 2 baseT [elB] (some ⟨g, 0, none⟩) 2 (.mk (opD 7) [fieldT (tk [97]) (nmT i), fieldT (tk [97]) (nmT j)]) U3 sS em (lies_two _ _ gD3))
          rw [← unhide hR] at cK
          replace hb3 := hide hb3
          clear em
          refine wpAnyC_calls 5 (by kernel_rfl) (fun oi ho K hK => ?_)
          simp only [List.getElem?_toArray, List.getElem?_cons_succ, List.getElem?_cons_zero, Option.some.injEq] at ho
          subst ho
          go_simp
          refine (unhide cK).mono ?_
          rintro r U4 ⟨rfl, bU4⟩
          have hb4 := hide ((unhide hb3).trans (bU4.mono (unhide hb3).size))
          have cD4 := cD3.on bU4 cD3.lt
          dsimp only [KR.v, encK]
          go_simp
          refine hK _ _ cD4 ?_
          clear hK K cK
          refine wpAnyC_reads 6 cD4 (by kernel_rfl) (by kernel_rfl) (by kernel_rfl) (fun d _ _ _ _ h => by cases d <;> exact h) (fun oi ho K hK => ?_)
          simp only [List.getElem?_toArray, List.getElem?_cons_succ, List.getElem?_cons_zero, Option.some.injEq] at ho
          subst ho
          rw [if_pos (by kernel_rfl)]
          refine ⟨.tuple #[.int .i64 r1, errO r2], fun w' hw' => ?_, hK _ ?_⟩
          · clear hw'
            go_simp
          clear hK K
          refine wpAnyC_reads 7 cD4 (by kernel_rfl) (by kernel_rfl) (by kernel_rfl) (fun d _ _ _ _ h => by cases d <;> exact h) (fun oi ho K hK => ?_)
          simp only [List.getElem?_toArray, List.getElem?_cons_succ, List.getElem?_cons_zero, Option.some.injEq] at ho
          subst ho
          rw [if_pos (by kernel_rfl)]
          refine ⟨.int .i64 r1, fun w' hw' => ?_, hK _ ?_⟩
          · clear hw'
            go_simp
          clear hK K
          refine wpAnyC_reads 8 cD4 (by kernel_rfl) (by kernel_rfl) (by kernel_rfl) (fun d _ _ _ _ h => by cases d <;> exact h) (fun oi ho K hK => ?_)
          simp only [List.getElem?_toArray, List.getElem?_cons_succ, List.getElem?_cons_zero, Option.some.injEq] at ho
          subst ho
          rw [if_pos (by kernel_rfl)]
          refine ⟨errO r2, fun w' hw' => ?_, hK _ ?_⟩
          · clear hw'
            go_simp
          clear hK K
          refine wpAnyC_reads 9 cD4 (by kernel_rfl) (by kernel_rfl) (by kernel_rfl) (fun d _ _ _ _ h => by cases d <;> exact h) (fun oi ho K hK => ?_)
          simp only [List.getElem?_toArray, List.getElem?_cons_succ, List.getElem?_cons_zero, Option.some.injEq] at ho
          subst ho
          rw [if_pos (by kernel_rfl)]
          refine ⟨.int .i64 r1, fun w' hw' => ?_, hK _ ?_⟩
          · clear hw'
            go_simp
          clear hK K
          refine wpAnyC_reads 10 cD4 (by kernel_rfl) (by kernel_rfl) (by kernel_rfl) (fun d _ _ _ _ h => by cases d <;> exact h) (fun oi ho K hK => ?_)
          simp only [List.getElem?_toArray, List.getElem?_cons_succ, List.getElem?_cons_zero, Option.some.injEq] at ho
          subst ho
          rw [if_pos (by kernel_rfl)]
          refine ⟨errO r2, fun w' hw' => ?_, hK _ ?_⟩
          · clear hw'
            go_simp
          clear hK K
          refine wpAnyC_done (by kernel_rfl) ?_ _
          go_wp2_with fail
          go_meet
          exact ⟨⟨rfl, rfl⟩, hb4⟩
    case rest =>
      obtain ⟨⟨rfl, rfl⟩, hbd⟩ := hcut
      have hi01 : i = 0 ∨ i = 1 ∨ i = 2 := by omega
      have hj01 : j = 0 ∨ j = 1 ∨ j = 2 := by omega
      clear hiI hjI hi3 hj3 hne hwD hwB
      rcases hi01 with rfl | rfl | rfl <;> rcases hj01 with rfl | rfl | rfl
      · obtain ⟨rfl, rfl⟩ := Prod.mk.inj ((unhide hR).trans (show _ = ((3, 0) : KR) by decide +kernel))
        rw [show errO 0 = .nilIface from rfl]
        clear hR
        go_wp2_with fail
        go_ret
        exact ⟨rfl, tailB (unhide hbd)⟩
      · obtain ⟨rfl, rfl⟩ := Prod.mk.inj ((unhide hR).trans (show _ = ((0, 14) : KR) by decide +kernel))
        rw [show errO 14 = errV 14 from rfl]
        clear hR
        go_wp2_with fail
        refine (errIs_same 14 _).mono ?_
        rintro r w9 ⟨rfl, rfl⟩
        go_wp2_with fail
        go_ret
        exact ⟨rfl, tailB (unhide hbd)⟩
      · obtain ⟨rfl, rfl⟩ := Prod.mk.inj ((unhide hR).trans (show _ = ((0, 14) : KR) by decide +kernel))
        rw [show errO 14 = errV 14 from rfl]
        clear hR
        go_wp2_with fail
        refine (errIs_same 14 _).mono ?_
        rintro r w9 ⟨rfl, rfl⟩
        go_wp2_with fail
        go_ret
        exact ⟨rfl, tailB (unhide hbd)⟩
      · obtain ⟨rfl, rfl⟩ := Prod.mk.inj ((unhide hR).trans (show _ = ((0, 14) : KR) by decide +kernel))
        rw [show errO 14 = errV 14 from rfl]
        clear hR
        go_wp2_with fail
        refine (errIs_same 14 _).mono ?_
        rintro r w9 ⟨rfl, rfl⟩
        go_wp2_with fail
        go_ret
        exact ⟨rfl, tailB (unhide hbd)⟩
      · obtain ⟨rfl, rfl⟩ := Prod.mk.inj ((unhide hR).trans (show _ = ((3, 0) : KR) by decide +kernel))
        rw [show errO 0 = .nilIface from rfl]
        clear hR
        go_wp2_with fail
        go_ret
        exact ⟨rfl, tailB (unhide hbd)⟩
      · obtain ⟨rfl, rfl⟩ := Prod.mk.inj ((unhide hR).trans (show _ = ((0, 14) : KR) by decide +kernel))
        rw [show errO 14 = errV 14 from rfl]
        clear hR
        go_wp2_with fail
        refine (errIs_same 14 _).mono ?_
        rintro r w9 ⟨rfl, rfl⟩
        go_wp2_with fail
        go_ret
        exact ⟨rfl, tailB (unhide hbd)⟩
      · obtain ⟨rfl, rfl⟩ := Prod.mk.inj ((unhide hR).trans (show _ = ((0, 14) : KR) by decide +kernel))
        rw [show errO 14 = errV 14 from rfl]
        clear hR
        go_wp2_with fail
        refine (errIs_same 14 _).mono ?_
        rintro r w9 ⟨rfl, rfl⟩
        go_wp2_with fail
        go_ret
        exact ⟨rfl, tailB (unhide hbd)⟩
      · obtain ⟨rfl, rfl⟩ := Prod.mk.inj ((unhide hR).trans (show _ = ((0, 14) : KR) by decide +kernel))
        rw [show errO 14 = errV 14 from rfl]
        clear hR
        go_wp2_with fail
        refine (errIs_same 14 _).mono ?_
        rintro r w9 ⟨rfl, rfl⟩
        go_wp2_with fail
        go_ret
        exact ⟨rfl, tailB (unhide hbd)⟩
      · obtain ⟨rfl, rfl⟩ := Prod.mk.inj ((unhide hR).trans (show _ = ((3, 0) : KR) by decide +kernel))
        rw [show errO 0 = .nilIface from rfl]
        clear hR
        go_wp2_with fail
        go_ret
        exact ⟨rfl, tailB (unhide hbd)⟩
end Go.Proofs.Ytllpigbmkhanjaa
