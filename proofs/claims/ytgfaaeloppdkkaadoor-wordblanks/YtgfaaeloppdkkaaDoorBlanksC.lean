/-
  What WordBlanks answers: true; in whatever world in which the package variables stand.
-/
import Derived.Test.YtgfaaeloppdkkaaDoorBlanksP
namespace Go.Proofs.YtgfaaeloppdkkaaDoor
open Go.RowKit Go.Shelf

theorem bText_snoc (l : List (Nat × Nat)) (k b : Nat) : bText (l ++ [(k, b)]) = bText l ++ 32 :: (tT k ++ List.replicate b 32) := by
  induction l with
  | nil => show 32 :: (tT k ++ (List.replicate b 32 ++ [])) = _; rw [List.append_nil]; rfl
  | cons x r ih =>
    obtain ⟨k2, b2⟩ := x
    show 32 :: (tT k2 ++ (List.replicate b2 32 ++ bText (r ++ [(k, b)]))) = _
    rw [ih]
    simp [bText]
theorem tT_len (k : Nat) : (tT k).length ≤ 5 := by
  have : ∀ m : Fin 12, (tblT[m.val]'m.isLt).length ≤ 5 := by decide
  exact this ⟨k % 12, Nat.mod_lt _ (by decide)⟩
theorem bText_len (l : List (Nat × Nat)) (h : ∀ x ∈ l, x.2 ≤ 3) : (bText l).length ≤ 9 * l.length := by
  induction l with
  | nil => simp [bText]
  | cons x r ih =>
    obtain ⟨k, b⟩ := x
    have h1 := ih (fun y hy => h y (by simp [hy]))
    have h2 := h (k, b) (by simp)
    have h3 := tT_len k
    show (32 :: (tT k ++ (List.replicate b 32 ++ bText r))).length ≤ _
    simp at h2 ⊢
    omega
def bB (l : List (Nat × Nat)) : ByteArray := ⟨(bText l).toArray⟩
theorem bB_size (l : List (Nat × Nat)) (h : ∀ x ∈ l, x.2 ≤ 3) : (bB l).size ≤ 9 * l.length := by
  rw [show (bB l).size = (bText l).length from List.size_toArray ..]; exact bText_len l h
def tB (k : Nat) : ByteArray := ⟨(tT k).toArray⟩
theorem tB_size (k : Nat) : (tB k).size ≤ 5 := by
  rw [show (tB k).size = (tT k).length from List.size_toArray ..]; exact tT_len k
def rB (b : Nat) : ByteArray := ⟨(List.replicate b (32 : UInt8)).toArray⟩
theorem bB_word (l : List (Nat × Nat)) (k : Nat) : (bB l ++ ⟨#[32]⟩) ++ tB k = bB (l ++ [(k, 0)]) := eq_of_list (by
  rw [append_list, append_list]; show bText l ++ [32] ++ tT k = bText _; rw [bText_snoc]; simp)
theorem bB_blank (l : List (Nat × Nat)) (k b : Nat) : bB (l ++ [(k, b)]) ++ ⟨#[32]⟩ = bB (l ++ [(k, b + 1)]) := eq_of_list (by
  rw [append_list]; show bText _ ++ [32] = bText _; rw [bText_snoc, bText_snoc, List.replicate_succ']; simp)

theorem pick_w0 (w : World) : (Instr.index 35 (.agg #[.string ⟨#[97]⟩, .string ⟨#[97, 98, 99]⟩, .string ⟨#[49, 50]⟩, .string ⟨#[45, 55]⟩, .string ⟨#[34, 120, 32, 121, 34]⟩, .string ⟨#[83, 69, 81]⟩, .string ⟨#[40]⟩, .string ⟨#[41]⟩, .string ⟨#[60, 61]⟩, .string ⟨#[60]⟩, .string ⟨#[33, 61]⟩, .string ⟨#[43]⟩]) (.int .u8 0)).run Tryd.prog w = .ok (.string ⟨#[97]⟩) w := by kernel_rfl
theorem pick_w1 (w : World) : (Instr.index 35 (.agg #[.string ⟨#[97]⟩, .string ⟨#[97, 98, 99]⟩, .string ⟨#[49, 50]⟩, .string ⟨#[45, 55]⟩, .string ⟨#[34, 120, 32, 121, 34]⟩, .string ⟨#[83, 69, 81]⟩, .string ⟨#[40]⟩, .string ⟨#[41]⟩, .string ⟨#[60, 61]⟩, .string ⟨#[60]⟩, .string ⟨#[33, 61]⟩, .string ⟨#[43]⟩]) (.int .u8 1)).run Tryd.prog w = .ok (.string ⟨#[97, 98, 99]⟩) w := by kernel_rfl
theorem pick_w2 (w : World) : (Instr.index 35 (.agg #[.string ⟨#[97]⟩, .string ⟨#[97, 98, 99]⟩, .string ⟨#[49, 50]⟩, .string ⟨#[45, 55]⟩, .string ⟨#[34, 120, 32, 121, 34]⟩, .string ⟨#[83, 69, 81]⟩, .string ⟨#[40]⟩, .string ⟨#[41]⟩, .string ⟨#[60, 61]⟩, .string ⟨#[60]⟩, .string ⟨#[33, 61]⟩, .string ⟨#[43]⟩]) (.int .u8 2)).run Tryd.prog w = .ok (.string ⟨#[49, 50]⟩) w := by kernel_rfl
theorem pick_w3 (w : World) : (Instr.index 35 (.agg #[.string ⟨#[97]⟩, .string ⟨#[97, 98, 99]⟩, .string ⟨#[49, 50]⟩, .string ⟨#[45, 55]⟩, .string ⟨#[34, 120, 32, 121, 34]⟩, .string ⟨#[83, 69, 81]⟩, .string ⟨#[40]⟩, .string ⟨#[41]⟩, .string ⟨#[60, 61]⟩, .string ⟨#[60]⟩, .string ⟨#[33, 61]⟩, .string ⟨#[43]⟩]) (.int .u8 3)).run Tryd.prog w = .ok (.string ⟨#[45, 55]⟩) w := by kernel_rfl
theorem pick_w4 (w : World) : (Instr.index 35 (.agg #[.string ⟨#[97]⟩, .string ⟨#[97, 98, 99]⟩, .string ⟨#[49, 50]⟩, .string ⟨#[45, 55]⟩, .string ⟨#[34, 120, 32, 121, 34]⟩, .string ⟨#[83, 69, 81]⟩, .string ⟨#[40]⟩, .string ⟨#[41]⟩, .string ⟨#[60, 61]⟩, .string ⟨#[60]⟩, .string ⟨#[33, 61]⟩, .string ⟨#[43]⟩]) (.int .u8 4)).run Tryd.prog w = .ok (.string ⟨#[34, 120, 32, 121, 34]⟩) w := by kernel_rfl
theorem pick_w5 (w : World) : (Instr.index 35 (.agg #[.string ⟨#[97]⟩, .string ⟨#[97, 98, 99]⟩, .string ⟨#[49, 50]⟩, .string ⟨#[45, 55]⟩, .string ⟨#[34, 120, 32, 121, 34]⟩, .string ⟨#[83, 69, 81]⟩, .string ⟨#[40]⟩, .string ⟨#[41]⟩, .string ⟨#[60, 61]⟩, .string ⟨#[60]⟩, .string ⟨#[33, 61]⟩, .string ⟨#[43]⟩]) (.int .u8 5)).run Tryd.prog w = .ok (.string ⟨#[83, 69, 81]⟩) w := by kernel_rfl
theorem pick_w6 (w : World) : (Instr.index 35 (.agg #[.string ⟨#[97]⟩, .string ⟨#[97, 98, 99]⟩, .string ⟨#[49, 50]⟩, .string ⟨#[45, 55]⟩, .string ⟨#[34, 120, 32, 121, 34]⟩, .string ⟨#[83, 69, 81]⟩, .string ⟨#[40]⟩, .string ⟨#[41]⟩, .string ⟨#[60, 61]⟩, .string ⟨#[60]⟩, .string ⟨#[33, 61]⟩, .string ⟨#[43]⟩]) (.int .u8 6)).run Tryd.prog w = .ok (.string ⟨#[40]⟩) w := by kernel_rfl
theorem pick_w7 (w : World) : (Instr.index 35 (.agg #[.string ⟨#[97]⟩, .string ⟨#[97, 98, 99]⟩, .string ⟨#[49, 50]⟩, .string ⟨#[45, 55]⟩, .string ⟨#[34, 120, 32, 121, 34]⟩, .string ⟨#[83, 69, 81]⟩, .string ⟨#[40]⟩, .string ⟨#[41]⟩, .string ⟨#[60, 61]⟩, .string ⟨#[60]⟩, .string ⟨#[33, 61]⟩, .string ⟨#[43]⟩]) (.int .u8 7)).run Tryd.prog w = .ok (.string ⟨#[41]⟩) w := by kernel_rfl
theorem pick_w8 (w : World) : (Instr.index 35 (.agg #[.string ⟨#[97]⟩, .string ⟨#[97, 98, 99]⟩, .string ⟨#[49, 50]⟩, .string ⟨#[45, 55]⟩, .string ⟨#[34, 120, 32, 121, 34]⟩, .string ⟨#[83, 69, 81]⟩, .string ⟨#[40]⟩, .string ⟨#[41]⟩, .string ⟨#[60, 61]⟩, .string ⟨#[60]⟩, .string ⟨#[33, 61]⟩, .string ⟨#[43]⟩]) (.int .u8 8)).run Tryd.prog w = .ok (.string ⟨#[60, 61]⟩) w := by kernel_rfl
theorem pick_w9 (w : World) : (Instr.index 35 (.agg #[.string ⟨#[97]⟩, .string ⟨#[97, 98, 99]⟩, .string ⟨#[49, 50]⟩, .string ⟨#[45, 55]⟩, .string ⟨#[34, 120, 32, 121, 34]⟩, .string ⟨#[83, 69, 81]⟩, .string ⟨#[40]⟩, .string ⟨#[41]⟩, .string ⟨#[60, 61]⟩, .string ⟨#[60]⟩, .string ⟨#[33, 61]⟩, .string ⟨#[43]⟩]) (.int .u8 9)).run Tryd.prog w = .ok (.string ⟨#[60]⟩) w := by kernel_rfl
theorem pick_w10 (w : World) : (Instr.index 35 (.agg #[.string ⟨#[97]⟩, .string ⟨#[97, 98, 99]⟩, .string ⟨#[49, 50]⟩, .string ⟨#[45, 55]⟩, .string ⟨#[34, 120, 32, 121, 34]⟩, .string ⟨#[83, 69, 81]⟩, .string ⟨#[40]⟩, .string ⟨#[41]⟩, .string ⟨#[60, 61]⟩, .string ⟨#[60]⟩, .string ⟨#[33, 61]⟩, .string ⟨#[43]⟩]) (.int .u8 10)).run Tryd.prog w = .ok (.string ⟨#[33, 61]⟩) w := by kernel_rfl
theorem pick_w11 (w : World) : (Instr.index 35 (.agg #[.string ⟨#[97]⟩, .string ⟨#[97, 98, 99]⟩, .string ⟨#[49, 50]⟩, .string ⟨#[45, 55]⟩, .string ⟨#[34, 120, 32, 121, 34]⟩, .string ⟨#[83, 69, 81]⟩, .string ⟨#[40]⟩, .string ⟨#[41]⟩, .string ⟨#[60, 61]⟩, .string ⟨#[60]⟩, .string ⟨#[33, 61]⟩, .string ⟨#[43]⟩]) (.int .u8 11)).run Tryd.prog w = .ok (.string ⟨#[43]⟩) w := by kernel_rfl
theorem pick_w (x : Int) (h0 : 0 ≤ x) (w : World) : (Instr.index 35 (.agg #[.string ⟨#[97]⟩, .string ⟨#[97, 98, 99]⟩, .string ⟨#[49, 50]⟩, .string ⟨#[45, 55]⟩, .string ⟨#[34, 120, 32, 121, 34]⟩, .string ⟨#[83, 69, 81]⟩, .string ⟨#[40]⟩, .string ⟨#[41]⟩, .string ⟨#[60, 61]⟩, .string ⟨#[60]⟩, .string ⟨#[33, 61]⟩, .string ⟨#[43]⟩]) (.int .u8 (x % 12))).run Tryd.prog w = .ok (.string (tB x.toNat)) w := by
  obtain ⟨m, hm⟩ : ∃ m : Nat, x % 12 = m := ⟨(x % 12).toNat, by omega⟩
  have hk : x.toNat % 12 = m := by omega
  have hlt : m < 12 := by omega
  have ht : tB x.toNat = ⟨(tblT[m]'hlt).toArray⟩ := by
    unfold tB tT
    subst hk
    rfl
  rw [hm, ht]
  clear ht
  match m, hlt with
  | 0, _ => exact pick_w0 w
  | 1, _ => exact pick_w1 w
  | 2, _ => exact pick_w2 w
  | 3, _ => exact pick_w3 w
  | 4, _ => exact pick_w4 w
  | 5, _ => exact pick_w5 w
  | 6, _ => exact pick_w6 w
  | 7, _ => exact pick_w7 w
  | 8, _ => exact pick_w8 w
  | 9, _ => exact pick_w9 w
  | 10, _ => exact pick_w10 w
  | 11, _ => exact pick_w11 w
  | m + 12, h => omega

/-- What Cut tells of such a text. -/
theorem cut_bl (l : List (Nat × Nat)) (h : ∀ x ∈ l, x.2 ≤ 3) (hl : l.length ≤ 40) (w : World) (hV : Vars w) :
    Calls Tryd.prog 10 #[.string (bB l)] w fun e W' => ∃ a cap, e = .returned (.tuple #[.slice a l.length cap, .nilIface]) ∧ Hid (∀ j (h : j < l.length), ∃ g, a = some ⟨g, 0, none⟩ ∧ g < W'.heap.size ∧ W'.cell? ⟨g, j * 4, none⟩ = some (.int .i64 (tW l[j].1).1) ∧ W'.cell? ⟨g, j * 4 + 1, none⟩ = some (.string ⟨(tW l[j].1).2.1.toArray⟩) ∧ W'.cell? ⟨g, j * 4 + 2, none⟩ = some (.int .i64 (tW l[j].1).2.2) ∧ W'.cell? ⟨g, j * 4 + 3, none⟩ = some (.int .i64 (bPos 0 l j : Nat))) ∧ Below w.heap.size w W' := by
  have hb := bB_size l h
  have hc : cutL (bB l).data.toList = bToks 0 l := restL_text l 0
  have h0 : errL 0 (bToks 0 l) = 0 := errL_all _ (bToks_words l 0) (by rw [bToks_len]; omega)
  have hw : wordsL (bB l).data.toList = bToks 0 l := by rw [wordsL, hc, if_pos h0]
  refine (cut10_c (bB l) w hV (by omega)).mono ?_
  rintro e W' ⟨v, rfl, hrow, hbw⟩
  rw [hw, bToks_len] at hrow
  rw [hc, h0]
  obtain ⟨a, cap, rfl⟩ := owns_form hrow
  refine ⟨a, cap, rfl, hide (fun j hj => ?_), hbw⟩
  obtain ⟨g, cap2, e2, h1, h2, h3⟩ := owns_cells hrow (by omega)
  simp only [Value.slice.injEq] at e2
  have hj' : j < (bToks 0 l).length := by rw [bToks_len]; exact hj
  have hat := bToks_at l 0 j hj
  rw [List.getElem?_eq_getElem hj'] at hat
  have hat := Option.some.inj hat
  have hcell : ∀ i u, i < 4 → (encC ((bToks 0 l)[j]'hj'))[i]? = some u → W'.cell? ⟨g, j * 4 + i, none⟩ = some u := fun i u hi hu => h3 _ _ (by rw [cellsW_at _ (bToks_words l 0) j hj' i hi]; exact hu)
  rw [hat] at hcell
  exact ⟨g, e2.1, h2, hcell 0 _ (by decide) rfl, hcell 1 _ (by decide) rfl, hcell 2 _ (by decide) rfl, hcell 3 _ (by decide) rfl⟩

end Go.Proofs.YtgfaaeloppdkkaaDoor
