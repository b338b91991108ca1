/-
  Where the condition and the pattern of known lie, and what the faces answer of them.
-/
import Derived.Test.YtfofpenajkaalaaDoorKnownK
namespace Go.Proofs.YtfofpenajkaalaaDoor
open Go.RowKit Go.Shelf

abbrev cellsX : Array Value := #[.int .i64 2, .int .i64 0, .int .i64 0, .string ⟨#[]⟩, .string ⟨#[97]⟩, .string ⟨#[120]⟩, .slice none 0 0, .int .i64 1, .int .i64 1, .int .i64 (-3), .string ⟨#[]⟩, .string ⟨#[]⟩, .string ⟨#[]⟩, .slice none 0 0]
theorem lies_kX {W : World} {s : Nat} (hb : Box W s 26 cellsX) : Lies W.heap.size W (some ⟨s, 0, none⟩) [kL, kR] := by
  refine .row s 0 [kL, kR] (fun _ => (none, 0)) (by simp) hb.lt (fun j t ht i u hu => ?_) (fun j t ht => ?_)
  · have hi : i < 7 := by
      have := (Array.getElem?_eq_some_iff.1 hu).1
      simpa using this
    match j, ht with
    | 0, ht =>
      cases ht
      obtain rfl | rfl | rfl | rfl | rfl | rfl | rfl : i = 0 ∨ i = 1 ∨ i = 2 ∨ i = 3 ∨ i = 4 ∨ i = 5 ∨ i = 6 := by omega
      all_goals (cases hu; exact hb.at _ rfl)
    | 1, ht =>
      cases ht
      obtain rfl | rfl | rfl | rfl | rfl | rfl | rfl : i = 0 ∨ i = 1 ∨ i = 2 ∨ i = 3 ∨ i = 4 ∨ i = 5 ∨ i = 6 := by omega
      all_goals (cases hu; exact hb.at _ rfl)
    | j + 2, ht => simp at ht
  · match j, ht with
    | 0, ht => cases ht; exact .nil none
    | 1, ht => cases ht; exact .nil none
    | j + 2, ht => simp at ht
theorem bnd_leaf (d : Dat) (h0 : -9223372036854775808 ≤ d.n) (h1 : d.n ≤ 9223372036854775807) : Bnd (.mk d []) := .mk d [] h0 h1 (fun j t ht => by simp at ht)
theorem bnd_kX : Bnd kX := .mk _ _ (by decide) (by decide) (fun j t ht => by
  match j, ht with
  | 0, ht => cases ht; exact bnd_leaf _ (by decide) (by decide)
  | 1, ht => cases ht; exact bnd_leaf _ (by decide) (by decide)
  | j + 2, ht => simp at ht)
theorem bnd_kP : ∀ e ∈ kP.es, Bnd e.t := by
  intro e he
  obtain ⟨j, hj, rfl⟩ := List.mem_iff_getElem.1 he
  match j, hj with
  | 0, _ => exact bnd_kX
  | 1, _ => exact bnd_leaf _ (by decide) (by decide)
  | 2, _ => exact bnd_leaf _ (by decide) (by decide)
  | j + 3, hj => exact absurd hj (by simp [kP])

abbrev cellsE (s : Nat) : Array Value := #[.string ⟨#[97]⟩, .slice (some ⟨s + 1 + 1, 0, none⟩) 2 2, .bool true, .bool false, .int .i64 8, .int .i64 0, .int .i64 0, .string ⟨#[]⟩, .string ⟨#[]⟩, .string ⟨#[]⟩, .slice (some ⟨s, 0, none⟩) 2 2,
  .string ⟨#[110]⟩, .slice (some ⟨s + 1 + 1 + 1, 0, none⟩) 1 1, .bool false, .bool true, .int .i64 0, .int .i64 0, .int .i64 0, .string ⟨#[]⟩, .string ⟨#[]⟩, .string ⟨#[]⟩, .slice none 0 0,
  .string ⟨#[98]⟩, .slice (some ⟨s + 1 + 1 + 1 + 1, 0, none⟩) 1 1, .bool false, .bool false, .int .i64 0, .int .i64 0, .int .i64 0, .string ⟨#[]⟩, .string ⟨#[]⟩, .string ⟨#[]⟩, .slice none 0 0]
def placeK (s : Nat) : Nat → Pl
  | 0 => ⟨some ⟨s + 1 + 1, 0, none⟩, 2, some ⟨s, 0, none⟩, 2⟩
  | 1 => ⟨some ⟨s + 1 + 1 + 1, 0, none⟩, 1, none, 0⟩
  | _ => ⟨some ⟨s + 1 + 1 + 1 + 1, 0, none⟩, 1, none, 0⟩
theorem row_kP {W : World} {s : Nat} (hx : Box W s 26 cellsX) (h1 : Box W (s + 1 + 1) 9 #[.string ⟨#[116]⟩, .string ⟨#[117]⟩]) (h2 : Box W (s + 1 + 1 + 1) 9 #[.string ⟨#[116]⟩]) (h3 : Box W (s + 1 + 1 + 1 + 1) 9 #[.string ⟨#[117]⟩]) (he : Box W (s + 1 + 1 + 1 + 1 + 1) 42 (cellsE s)) :
    ∀ (j : Nat) e, kP.es[j]? = some e → (∀ (i : Nat) u, (e.cs (placeK s j))[i]? = some u → W.cell? ⟨s + 1 + 1 + 1 + 1 + 1, 0 + j * 11 + i, none⟩ = some u) ∧ EmIn W.heap.size W e (placeK s j) ∧ e.ts.length ≤ (placeK s j).tc := by
  intro j e hj
  have key : ∀ (e : Em) (p : Pl) (i : Nat) u, (e.cs p)[i]? = some u → i < 11 := fun e p i u hu => by
    have := (Array.getElem?_eq_some_iff.1 hu).1
    simpa using this
  match j, hj with
  | 0, hj =>
    cases hj
    refine ⟨fun i u hu => ?_, ⟨⟨by simp, .inr ⟨s + 1 + 1, 0, rfl, h1.lt, fun k t ht => ?_⟩⟩, lies_kX hx⟩, by simp [placeK]⟩
    · have hi := key _ _ i u hu
      obtain rfl | rfl | rfl | rfl | rfl | rfl | rfl | rfl | rfl | rfl | rfl : i = 0 ∨ i = 1 ∨ i = 2 ∨ i = 3 ∨ i = 4 ∨ i = 5 ∨ i = 6 ∨ i = 7 ∨ i = 8 ∨ i = 9 ∨ i = 10 := by omega
      all_goals (cases hu; exact he.at _ rfl)
    · match k, ht with
      | 0, ht => cases ht; exact h1.at 0 rfl
      | 1, ht => cases ht; exact h1.at 1 rfl
      | k + 2, ht => simp at ht
  | 1, hj =>
    cases hj
    refine ⟨fun i u hu => ?_, ⟨⟨by simp, .inr ⟨s + 1 + 1 + 1, 0, rfl, h2.lt, fun k t ht => ?_⟩⟩, .nil none⟩, by simp [placeK]⟩
    · have hi := key _ _ i u hu
      obtain rfl | rfl | rfl | rfl | rfl | rfl | rfl | rfl | rfl | rfl | rfl : i = 0 ∨ i = 1 ∨ i = 2 ∨ i = 3 ∨ i = 4 ∨ i = 5 ∨ i = 6 ∨ i = 7 ∨ i = 8 ∨ i = 9 ∨ i = 10 := by omega
      all_goals (cases hu; exact he.at _ rfl)
    · match k, ht with
      | 0, ht => cases ht; exact h2.at 0 rfl
      | k + 1, ht => simp at ht
  | 2, hj =>
    cases hj
    refine ⟨fun i u hu => ?_, ⟨⟨by simp, .inr ⟨s + 1 + 1 + 1 + 1, 0, rfl, h3.lt, fun k t ht => ?_⟩⟩, .nil none⟩, by simp [placeK]⟩
    · have hi := key _ _ i u hu
      obtain rfl | rfl | rfl | rfl | rfl | rfl | rfl | rfl | rfl | rfl | rfl : i = 0 ∨ i = 1 ∨ i = 2 ∨ i = 3 ∨ i = 4 ∨ i = 5 ∨ i = 6 ∨ i = 7 ∨ i = 8 ∨ i = 9 ∨ i = 10 := by omega
      all_goals (cases hu; exact he.at _ rfl)
    · match k, ht with
      | 0, ht => cases ht; exact h3.at 0 rfl
      | k + 1, ht => simp at ht
  | j + 3, hj => simp [kP] at hj

end Go.Proofs.YtfofpenajkaalaaDoor
