/-
  What the laws of package pasternlaw10 make: their schema, conditions, elements.
-/
import Derived.Test.YtllpigbmkhanjaaCkF
namespace Go.Proofs.Ytllpigbmkhanjaa
open Go.RowKit Go.Shelf

attribute [local go_sem] Oper.semAt_some

abbrev tk (l : List UInt8) (h : l.length ≤ maxLen := by decide) : Txt := ⟨⟨l.toArray⟩, by show l.toArray.size ≤ maxLen; simpa using h⟩
abbrev t0 : Txt := ⟨⟨#[]⟩, by decide⟩
abbrev e0 : Tree := .mk d0 []
def baseT : List Ty := [(tk [116], [(tk [98], 3), (tk [110], 1), (tk [115], 2)]), (tk [117], [(tk [110], 1), (tk [115], 3)])]
abbrev fieldD (a f : Txt) : Dat := ⟨2, 0, 0, t0, a, f⟩
abbrev fieldT (a f : Txt) : Tree := .mk (fieldD a f) []

set_option maxHeartbeats 1000000 in
theorem field8_c (a f : Txt) (w : World) : Calls Try.prog 8 #[.string a.1, .string f.1] w fun r W' => r = .returned ((fieldD a f).v none 0 0) ∧ Below w.heap.size w W' := by
  go_enter Try.func8, Try.ntmps8
  go_wp2_with fail
  have q := (Box.new w 28 ((fieldD a f).cs none 0 0)).seven
  obtain ⟨q0, q1, q2, q3, q4, q5, q6⟩ := q
  refine bodyPost_ret (v := (fieldD a f).v none 0 0) (by simp [results, Try.results8, go_sem, q0, q1, q2, q3, q4, q5, q6]) rfl ⟨rfl, (Below.refl _ _).alloc (Nat.le_refl _) _⟩
set_option maxHeartbeats 1000000 in
theorem base_c (w : World) : Calls Try.prog 10 #[] w fun r W' => ∃ a, r = .returned (.agg #[.slice a baseT.length 2]) ∧ Schm W'.heap.size W' a baseT ∧ Below w.heap.size w W' := by
  go_enter Try.func10, Try.ntmps10
  go_wp2_with fail
  obtain ⟨W4, hW4⟩ : ∃ W4, W4 = ((((w.alloc (.cells #[.slice (some ⟨w.heap.size + 1 + 1 + 1, 0, none⟩) 2 2] 37)).alloc (.cells #[.string ⟨#[98]⟩, .int .i64 3, .string ⟨#[110]⟩, .int .i64 1, .string ⟨#[115]⟩, .int .i64 2] 60)).alloc (.cells #[.string ⟨#[110]⟩, .int .i64 1, .string ⟨#[115]⟩, .int .i64 3] 60)).alloc (.cells #[.string ⟨#[116]⟩, .slice (some ⟨w.heap.size + 1, 0, none⟩) 3 3, .string ⟨#[117]⟩, .slice (some ⟨w.heap.size + 1 + 1, 0, none⟩) 2 2] 63)) := ⟨_, rfl⟩
  have b4 : Below w.heap.size w W4 := by rw [hW4]; exact ((((Below.refl _ _).alloc (Nat.le_refl _) _).alloc (by simp) _).alloc (by simp; omega) _).alloc (by simp; omega) _
  have e4 : W4.heap.size = w.heap.size + 4 := by rw [hW4]; simp
  have x0 : Box W4 w.heap.size 37 #[.slice (some ⟨w.heap.size + 1 + 1 + 1, 0, none⟩) 2 2] := by rw [hW4]; exact (((Box.new w 37 _).alloc _).alloc _).alloc _
  have x1 : Box W4 (w.heap.size + 1) 60 #[.string ⟨#[98]⟩, .int .i64 3, .string ⟨#[110]⟩, .int .i64 1, .string ⟨#[115]⟩, .int .i64 2] := by
    have := Box.new (w.alloc (.cells #[.slice (some ⟨w.heap.size + 1 + 1 + 1, 0, none⟩) 2 2] 37)) 60 #[.string ⟨#[98]⟩, .int .i64 3, .string ⟨#[110]⟩, .int .i64 1, .string ⟨#[115]⟩, .int .i64 2]
    simp only [World.size_alloc] at this
    rw [hW4]; exact (this.alloc _).alloc _
  have x2 : Box W4 (w.heap.size + 1 + 1) 60 #[.string ⟨#[110]⟩, .int .i64 1, .string ⟨#[115]⟩, .int .i64 3] := by
    have := Box.new ((w.alloc (.cells #[.slice (some ⟨w.heap.size + 1 + 1 + 1, 0, none⟩) 2 2] 37)).alloc (.cells #[.string ⟨#[98]⟩, .int .i64 3, .string ⟨#[110]⟩, .int .i64 1, .string ⟨#[115]⟩, .int .i64 2] 60)) 60 #[.string ⟨#[110]⟩, .int .i64 1, .string ⟨#[115]⟩, .int .i64 3]
    simp only [World.size_alloc] at this
    rw [hW4]; exact this.alloc _
  have x3 : Box W4 (w.heap.size + 1 + 1 + 1) 63 #[.string ⟨#[116]⟩, .slice (some ⟨w.heap.size + 1, 0, none⟩) 3 3, .string ⟨#[117]⟩, .slice (some ⟨w.heap.size + 1 + 1, 0, none⟩) 2 2] := by
    have := Box.new (((w.alloc (.cells #[.slice (some ⟨w.heap.size + 1 + 1 + 1, 0, none⟩) 2 2] 37)).alloc (.cells #[.string ⟨#[98]⟩, .int .i64 3, .string ⟨#[110]⟩, .int .i64 1, .string ⟨#[115]⟩, .int .i64 2] 60)).alloc (.cells #[.string ⟨#[110]⟩, .int .i64 1, .string ⟨#[115]⟩, .int .i64 3] 60)) 63 #[.string ⟨#[116]⟩, .slice (some ⟨w.heap.size + 1, 0, none⟩) 3 3, .string ⟨#[117]⟩, .slice (some ⟨w.heap.size + 1 + 1, 0, none⟩) 2 2]
    simp only [World.size_alloc] at this
    rw [hW4]; exact this
  rw [← hW4]
  clear hW4
  have q0 := x0.one.1
  refine bodyPost_ret (v := .agg #[.slice (some ⟨w.heap.size + 1 + 1 + 1, 0, none⟩) 2 2]) (by simp [results, Try.results10, go_sem, q0]) rfl ⟨some ⟨w.heap.size + 1 + 1 + 1, 0, none⟩, rfl, ⟨?_, by decide, ?_⟩, b4⟩
  · refine .inr ⟨w.heap.size + 1 + 1 + 1, 0, rfl, by omega, fun j hj => ?_⟩
    match j, hj with
    | 0, _ =>
      refine ⟨x3.at 0 rfl, some ⟨w.heap.size + 1, 0, none⟩, 3, x3.at 1 rfl, .inr ⟨w.heap.size + 1, 0, rfl, by omega, fun i hi => ?_⟩, by decide⟩
      match i, hi with
      | 0, _ => exact ⟨x1.at 0 rfl, x1.at 1 rfl⟩
      | 1, _ => exact ⟨x1.at 2 rfl, x1.at 3 rfl⟩
      | 2, _ => exact ⟨x1.at 4 rfl, x1.at 5 rfl⟩
      | i + 3, h => exact absurd h (by show ¬ i + 3 < 3; omega)
    | 1, _ =>
      refine ⟨x3.at 2 rfl, some ⟨w.heap.size + 1 + 1, 0, none⟩, 2, x3.at 3 rfl, .inr ⟨w.heap.size + 1 + 1, 0, rfl, by omega, fun i hi => ?_⟩, by decide⟩
      match i, hi with
      | 0, _ => exact ⟨x2.at 0 rfl, x2.at 1 rfl⟩
      | 1, _ => exact ⟨x2.at 2 rfl, x2.at 3 rfl⟩
      | i + 2, h => exact absurd h (by show ¬ i + 2 < 2; omega)
    | j + 2, h => exact absurd h (by show ¬ j + 2 < 2; omega)
  · intro k
    match k with
    | 0 => decide
    | 1 => decide
    | k + 2 => exact Nat.zero_le _
set_option maxHeartbeats 1000000 in
theorem two_c (op : Int) (x y : Dat) (w : World) : Calls Try.prog 7 #[.int .i64 op, x.v none 0 0, y.v none 0 0] w fun r W' => ∃ a, r = .returned ((⟨op, 0, 0, t0, t0, t0⟩ : Dat).v a 2 2) ∧ Lies W'.heap.size W' a [.mk x [], .mk y []] ∧ Below w.heap.size w W' := by
  go_enter Try.func7, Try.ntmps7
  go_wp2_with fail
  obtain ⟨W3, hW3⟩ : ∃ W3, W3 = ((w.alloc (.cells (x.cs none 0 0) 28)).alloc (.cells (y.cs none 0 0) 28)).alloc (.cells ((⟨op, 0, 0, t0, t0, t0⟩ : Dat).cs (some ⟨w.heap.size + 1 + 1 + 1, 0, none⟩) 2 2) 28) := ⟨_, rfl⟩
  have e3 : W3.heap.size = w.heap.size + 1 + 1 + 1 := by rw [hW3]; simp
  have b3 : Below w.heap.size w W3 := by rw [hW3]; exact (((Below.refl _ _).alloc (Nat.le_refl _) _).alloc (by simp) _).alloc (by simp; omega) _
  have x3 : Box W3 (w.heap.size + 1 + 1) 28 ((⟨op, 0, 0, t0, t0, t0⟩ : Dat).cs (some ⟨w.heap.size + 1 + 1 + 1, 0, none⟩) 2 2) := by
    have := Box.new ((w.alloc (.cells (x.cs none 0 0) 28)).alloc (.cells (y.cs none 0 0) 28)) 28 ((⟨op, 0, 0, t0, t0, t0⟩ : Dat).cs (some ⟨w.heap.size + 1 + 1 + 1, 0, none⟩) 2 2)
    simp only [World.size_alloc] at this
    rw [hW3]; exact this
  obtain ⟨W4, hW4⟩ : ∃ W4, W4 = W3.alloc (.cells #[.int .i64 x.op, .int .i64 x.k, .int .i64 x.n, .string x.s.1, .string x.al.1, .string x.fd.1, .slice none 0 0, .int .i64 y.op, .int .i64 y.k, .int .i64 y.n, .string y.s.1, .string y.al.1, .string y.fd.1, .slice none 0 0] 28) := ⟨_, rfl⟩
  have b4 : Below w.heap.size w W4 := by rw [hW4]; exact b3.alloc (by omega) _
  have x4 : Box W4 (w.heap.size + 1 + 1 + 1) 28 #[.int .i64 x.op, .int .i64 x.k, .int .i64 x.n, .string x.s.1, .string x.al.1, .string x.fd.1, .slice none 0 0, .int .i64 y.op, .int .i64 y.k, .int .i64 y.n, .string y.s.1, .string y.al.1, .string y.fd.1, .slice none 0 0] := by
    rw [hW4, ← e3]; exact Box.new _ _ _
  have x5 : Box W4 (w.heap.size + 1 + 1) 28 ((⟨op, 0, 0, t0, t0, t0⟩ : Dat).cs (some ⟨w.heap.size + 1 + 1 + 1, 0, none⟩) 2 2) := by rw [hW4]; exact x3.alloc _
  obtain ⟨q0, q1, q2, q3, q4, q5, q6⟩ := x5.seven
  rw [← hW3, ← hW4]
  clear hW3 hW4 x3
  refine bodyPost_ret (v := (⟨op, 0, 0, t0, t0, t0⟩ : Dat).v (some ⟨w.heap.size + 1 + 1 + 1, 0, none⟩) 2 2) (by simp [results, Try.results7, go_sem, q0, q1, q2, q3, q4, q5, q6]) rfl ⟨_, rfl, ?_, b4⟩
  refine .row _ 0 _ (fun _ => (none, 0)) (by simp) x4.lt (fun j t ht => ?_) (fun j t ht => ?_)
  · match j, ht with
    | 0, ht =>
      simp only [List.getElem?_cons_zero, Option.some.injEq] at ht
      subst ht
      intro i u hu
      exact x4.at (0 + 0 * 7 + i) (by
        match i, hu with
        | 0, hu => exact hu
        | 1, hu => exact hu
        | 2, hu => exact hu
        | 3, hu => exact hu
        | 4, hu => exact hu
        | 5, hu => exact hu
        | 6, hu => exact hu
        | i + 7, hu => simp at hu)
    | 1, ht =>
      simp only [List.getElem?_cons_succ, List.getElem?_cons_zero, Option.some.injEq] at ht
      subst ht
      intro i u hu
      exact x4.at (0 + 1 * 7 + i) (by
        match i, hu with
        | 0, hu => exact hu
        | 1, hu => exact hu
        | 2, hu => exact hu
        | 3, hu => exact hu
        | 4, hu => exact hu
        | 5, hu => exact hu
        | 6, hu => exact hu
        | i + 7, hu => simp at hu)
    | j + 2, ht => simp at ht
  · match j, ht with
    | 0, ht => simp only [List.getElem?_cons_zero, Option.some.injEq] at ht; subst ht; exact .nil _
    | 1, ht => simp only [List.getElem?_cons_succ, List.getElem?_cons_zero, Option.some.injEq] at ht; subst ht; exact .nil _
    | j + 2, ht => simp at ht
end Go.Proofs.Ytllpigbmkhanjaa
