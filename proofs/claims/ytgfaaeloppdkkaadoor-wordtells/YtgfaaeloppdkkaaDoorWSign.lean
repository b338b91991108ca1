/-
  What sign of package word tells: for every text, in whatever world in which the package variables stand; nothing that lay is turned.
-/
import Derived.Test.YtgfaaeloppdkkaaDoorWName
namespace Go.Proofs.YtgfaaeloppdkkaaDoor
open Go.RowKit Go.Shelf

theorem find_take_none {p : List UInt8 → Bool} {l : List (List UInt8)} {k : Nat} (h : (l.take k).find? p = none) (hk : k < l.length) (hp : p l[k] = true) : l.find? p = some l[k] := by
  have e : l = l.take k ++ l[k] :: l.drop (k + 1) := by rw [List.getElem_cons_drop, List.take_append_drop]
  generalize hx : l[k] = x at hp e ⊢
  rw [e, List.find?_append, h]
  simp [hp]
theorem find_take_succ {p : List UInt8 → Bool} {l : List (List UInt8)} {k : Nat} (h : (l.take k).find? p = none) (hk : k < l.length) (hp : p l[k] = false) : (l.take (k + 1)).find? p = none := by
  rw [List.take_succ_eq_append_getElem hk, List.find?_append, h]
  simp [hp]
theorem prefix_has (t l : List UInt8) : Lib.hasPrefix l t = t.isPrefixOf l := by
  rfl

theorem sign_index0 (w : World) : (Instr.index 97 (.agg signsV) (.int .i64 0)).run Tryd.prog w = .ok (.string ⟨#[33, 61]⟩) w := by kernel_rfl
theorem sign_index1 (w : World) : (Instr.index 97 (.agg signsV) (.int .i64 1)).run Tryd.prog w = .ok (.string ⟨#[60, 61]⟩) w := by kernel_rfl
theorem sign_index2 (w : World) : (Instr.index 97 (.agg signsV) (.int .i64 2)).run Tryd.prog w = .ok (.string ⟨#[40]⟩) w := by kernel_rfl
theorem sign_index3 (w : World) : (Instr.index 97 (.agg signsV) (.int .i64 3)).run Tryd.prog w = .ok (.string ⟨#[41]⟩) w := by kernel_rfl
theorem sign_index4 (w : World) : (Instr.index 97 (.agg signsV) (.int .i64 4)).run Tryd.prog w = .ok (.string ⟨#[91]⟩) w := by kernel_rfl
theorem sign_index5 (w : World) : (Instr.index 97 (.agg signsV) (.int .i64 5)).run Tryd.prog w = .ok (.string ⟨#[93]⟩) w := by kernel_rfl
theorem sign_index6 (w : World) : (Instr.index 97 (.agg signsV) (.int .i64 6)).run Tryd.prog w = .ok (.string ⟨#[58]⟩) w := by kernel_rfl
theorem sign_index7 (w : World) : (Instr.index 97 (.agg signsV) (.int .i64 7)).run Tryd.prog w = .ok (.string ⟨#[124]⟩) w := by kernel_rfl
theorem sign_index8 (w : World) : (Instr.index 97 (.agg signsV) (.int .i64 8)).run Tryd.prog w = .ok (.string ⟨#[44]⟩) w := by kernel_rfl
theorem sign_index9 (w : World) : (Instr.index 97 (.agg signsV) (.int .i64 9)).run Tryd.prog w = .ok (.string ⟨#[43]⟩) w := by kernel_rfl
theorem sign_index10 (w : World) : (Instr.index 97 (.agg signsV) (.int .i64 10)).run Tryd.prog w = .ok (.string ⟨#[33]⟩) w := by kernel_rfl
theorem sign_index11 (w : World) : (Instr.index 97 (.agg signsV) (.int .i64 11)).run Tryd.prog w = .ok (.string ⟨#[46]⟩) w := by kernel_rfl
theorem sign_index12 (w : World) : (Instr.index 97 (.agg signsV) (.int .i64 12)).run Tryd.prog w = .ok (.string ⟨#[45]⟩) w := by kernel_rfl
theorem sign_index13 (w : World) : (Instr.index 97 (.agg signsV) (.int .i64 13)).run Tryd.prog w = .ok (.string ⟨#[42]⟩) w := by kernel_rfl
theorem sign_index14 (w : World) : (Instr.index 97 (.agg signsV) (.int .i64 14)).run Tryd.prog w = .ok (.string ⟨#[61]⟩) w := by kernel_rfl
theorem sign_index15 (w : World) : (Instr.index 97 (.agg signsV) (.int .i64 15)).run Tryd.prog w = .ok (.string ⟨#[60]⟩) w := by kernel_rfl
theorem sign_index (k : Nat) (h : k < 16) (w : World) : (Instr.index 97 (.agg signsV) (.int .i64 k)).run Tryd.prog w = .ok (.string ⟨(signsL[k]'h).toArray⟩) w := by
  match k, h with
  | 0, _ => exact sign_index0 w
  | 1, _ => exact sign_index1 w
  | 2, _ => exact sign_index2 w
  | 3, _ => exact sign_index3 w
  | 4, _ => exact sign_index4 w
  | 5, _ => exact sign_index5 w
  | 6, _ => exact sign_index6 w
  | 7, _ => exact sign_index7 w
  | 8, _ => exact sign_index8 w
  | 9, _ => exact sign_index9 w
  | 10, _ => exact sign_index10 w
  | 11, _ => exact sign_index11 w
  | 12, _ => exact sign_index12 w
  | 13, _ => exact sign_index13 w
  | 14, _ => exact sign_index14 w
  | 15, _ => exact sign_index15 w
  | k + 16, h => omega

set_option maxRecDepth 100000 in
set_option maxHeartbeats 1000000 in
theorem sign37_c (s : ByteArray) (w : World) (hV : Vars w) :
    Calls Tryd.prog 37 #[.string s] w fun e w' => e = .returned (encR (signW s.data.toList)) ∧ Below w.heap.size w w' := by
  have hz := hV.size
  have hz1 : 4 < w.heap.size := by omega
  have h0 : w.cell? ⟨4, 0, none⟩ = some (.string ⟨#[33, 61]⟩) := hV.sg 0 (by decide)
  have h1 : w.cell? ⟨4, 1, none⟩ = some (.string ⟨#[60, 61]⟩) := hV.sg 1 (by decide)
  have h2 : w.cell? ⟨4, 2, none⟩ = some (.string ⟨#[40]⟩) := hV.sg 2 (by decide)
  have h3 : w.cell? ⟨4, 3, none⟩ = some (.string ⟨#[41]⟩) := hV.sg 3 (by decide)
  have h4 : w.cell? ⟨4, 4, none⟩ = some (.string ⟨#[91]⟩) := hV.sg 4 (by decide)
  have h5 : w.cell? ⟨4, 5, none⟩ = some (.string ⟨#[93]⟩) := hV.sg 5 (by decide)
  have h6 : w.cell? ⟨4, 6, none⟩ = some (.string ⟨#[58]⟩) := hV.sg 6 (by decide)
  have h7 : w.cell? ⟨4, 7, none⟩ = some (.string ⟨#[124]⟩) := hV.sg 7 (by decide)
  have h8 : w.cell? ⟨4, 8, none⟩ = some (.string ⟨#[44]⟩) := hV.sg 8 (by decide)
  have h9 : w.cell? ⟨4, 9, none⟩ = some (.string ⟨#[43]⟩) := hV.sg 9 (by decide)
  have h10 : w.cell? ⟨4, 10, none⟩ = some (.string ⟨#[33]⟩) := hV.sg 10 (by decide)
  have h11 : w.cell? ⟨4, 11, none⟩ = some (.string ⟨#[46]⟩) := hV.sg 11 (by decide)
  have h12 : w.cell? ⟨4, 12, none⟩ = some (.string ⟨#[45]⟩) := hV.sg 12 (by decide)
  have h13 : w.cell? ⟨4, 13, none⟩ = some (.string ⟨#[42]⟩) := hV.sg 13 (by decide)
  have h14 : w.cell? ⟨4, 14, none⟩ = some (.string ⟨#[61]⟩) := hV.sg 14 (by decide)
  have h15 : w.cell? ⟨4, 15, none⟩ = some (.string ⟨#[60]⟩) := hV.sg 15 (by decide)
  have b0 := Box.new w 32 w0
  have bb0 : Below w.heap.size w (w.alloc (.cells w0 32)) := (Below.refl _ _).alloc (Nat.le_refl _) _
  have B0 := hide b0
  have BB0 := hide bb0
  clear b0 bb0
  go_enter Tryd.func37, Tryd.ntmps37
  go_wp2
  trace_state
  go_loopw [8] (fun i wr => ∃ k : Nat, k ≤ 16 ∧ i = .int .i64 k ∧ Hid ((signsL.take k).find? (fun t => t.isPrefixOf s.data.toList) = none) ∧ Below (w.heap.size + 1) (w.alloc (.cells w0 32)) wr) (fun i _ => 16 - (intOf i).toNat)
  case atStart => exact ⟨0, Nat.zero_le _, rfl, hide rfl, Below.refl _ _⟩
  case round =>
    obtain ⟨k, hk, rfl, hn, hb⟩ := hrel
    by_cases hlt : k < 16
    · skip
      have hk : k < signsL.length := hlt
      obtain ⟨t, ht⟩ : ∃ t, t = signsL[k] := ⟨_, rfl⟩
      have hat : ∀ w, (Instr.index 97 (.agg signsV) (.int .i64 k)).run Tryd.prog w = .ok (.string ⟨t.toArray⟩) w := fun w => by rw [sign_index k hlt, ht]; rfl
      unfold signsV at hat
      have htd : (ByteArray.mk t.toArray).data.toList = t := rfl
      have hts : (ByteArray.mk t.toArray).size = t.length := List.size_toArray ..
      cases hp : t.isPrefixOf s.data.toList
      · have hn' := hide (find_take_succ (unhide hn) hk (by rw [← ht]; exact hp))
        have Hp := hide hp
        clear hp ht
        go_wp2_with (go_at_call 48; refine (Tryd.strings_HasPrefix _ _ _).mono ?_; rintro e w2 ⟨rfl, rfl⟩; rw [prefix_has, htd, unhide Hp])
        go_roundw
        case rel => exact ⟨k + 1, by omega, by go_num, hn', hb⟩
        case measure => simp [intOf]; omega
      · have H := hide (show signW s.data.toList = .word 5 t 0 t.length by rw [signW, find_take_none (unhide hn) hk (by rw [← ht]; exact hp), ht])
        have Hp := hide hp
        clear hp ht
        have B4 := (unhide B0).on hb (by simp)
        obtain ⟨c0, c1, c2, c3, f0, f1, f2, f3⟩ := Box.four B4
        go_wp2_with (go_at_call 48; refine (Tryd.strings_HasPrefix _ _ _).mono ?_; rintro e w2 ⟨rfl, rfl⟩; rw [prefix_has, htd, unhide Hp])
        obtain ⟨q0, q1, q2, q3, _, _, _, _⟩ := (B4.put4 (.int .i64 5) (.string ⟨t.toArray⟩) (.int .i64 0) (.int .i64 0)).four
        refine bodyPost_ret (v := encR (.word 5 t 0 t.length)) (by simp [results, Tryd.results37, go_sem, q0, q1, q2, q3, encR]) rfl ⟨by rw [unhide H], ?_⟩
        exact below4 ((unhide BB0).trans (hb.mono (by omega))) (Nat.le_refl _) _ _ _ _
    · obtain rfl : k = 16 := by omega
      have H := hide (show signW s.data.toList = .bad 21 by
        have := unhide hn
        rw [show signsL.take 16 = signsL from rfl] at this
        rw [signW, this])
      have B4 := (unhide B0).on hb (by simp)
      obtain ⟨c0, c1, c2, c3, f0, f1, f2, f3⟩ := Box.four B4
      go_wp2
      obtain ⟨q0, q1, q2, q3, _, _, _, _⟩ := (B4.put4 (.int .i64 0) (.string ⟨#[]⟩) (.int .i64 0) (.int .i64 0)).four
      refine bodyPost_ret (v := encR (.bad 21)) (by simp [results, Tryd.results37, go_sem, q0, q1, q2, q3, encR]) rfl ⟨by rw [unhide H], ?_⟩
      exact below4 ((unhide BB0).trans (hb.mono (by omega))) (Nat.le_refl _) _ _ _ _

end Go.Proofs.YtgfaaeloppdkkaaDoor
