/-
  Conditions as they may be: every node is, and the text is short; what the document's ShowExpr answers.
-/
import Derived.Test.YtfofpenajkaalaaDoorRefPat
namespace Go.Proofs.YtfofpenajkaalaaDoor
open Go.RowKit Go.Shelf

/-- Every node's number is one of 64 bits. -/
inductive Bnd : Tree → Prop
  | mk (d : Dat) (ks : List Tree) (h0 : -9223372036854775808 ≤ d.n) (h1 : d.n ≤ 9223372036854775807) (hk : ∀ (j : Nat) t, ks[j]? = some t → Bnd t) : Bnd (.mk d ks)
theorem shapedL_at {n : Nat} {ts : List Tree} (h : shapedL n ts = true) : ∀ (j : Nat) t, ts[j]? = some t → shapedT n t = true := by
  induction ts with
  | nil => intro j t ht; simp at ht
  | cons x ts ih =>
    rw [shapedL, Bool.and_eq_true] at h
    intro j t ht
    cases j with
    | zero => simp at ht; subst ht; exact h.1
    | succ j => exact ih h.2 j t (by simpa using ht)
theorem shaped_snd {t : Tree} (hb : Bnd t) : ∀ n, shapedT n t = true → Snd t := by
  induction hb with
  | mk d ks h0 h1 hk ih =>
    intro n h
    rw [shapedT, Bool.and_eq_true, Bool.and_eq_true] at h
    exact .mk d ks h.1.2 h0 h1 fun j t ht => ih j t ht (n + 1) (shapedL_at h.2 j t ht)
theorem isT_snd {t : Tree} (hb : Bnd t) (h : isT t = true) : Snd t := by
  rw [isT_shaped, Bool.and_eq_true] at h
  exact shaped_snd hb 1 h.1

theorem lit_len (k n : Int) (s : ByteArray) (h0 : -9223372036854775808 ≤ n) (h1 : n ≤ 9223372036854775807) (h : isB k n s = true) : (flatB (litP k n s)).length ≤ 50 := by
  unfold litP
  by_cases h2 : k = 2
  · rw [if_pos h2]
    have hs := isB_size h h2
    have he := esc_size s.data.toList
    rw [show s.data.toList.length = s.size from Array.length_toList ..] at he
    rw [flatB_append, flatB_append, List.length_append, List.length_append]
    have hq : (flatB [quB]).length = 1 := rfl
    omega
  · rw [if_neg h2]
    by_cases h3 : k = 3
    · rw [if_pos h3]; split <;> decide
    · rw [if_neg h3]
      have := decB_size n h0 h1
      rw [decB_itoa] at this
      have e : (flatB [⟨(Lib.itoa n).toArray⟩]).length = (itoaB n).size := by simp [flatB, itoaB]; rfl
      rw [e]; omega
theorem name_size {s : ByteArray} (h : nameB s = true) : s.size ≤ 8 := by
  unfold nameB at h
  simp only [Bool.and_eq_true, decide_eq_true_eq] at h
  have := h.1.2
  omega
theorem shaped_len {t : Tree} (hb : Bnd t) : ∀ n, shapedT n t = true → (flatB (condP t)).length ≤ 50 * 3 ^ (6 - n) := by
  induction hb with
  | mk d ks h0 h1 hk ih =>
    intro n h
    rw [shapedT, Bool.and_eq_true, Bool.and_eq_true, decide_eq_true_eq] at h
    obtain ⟨⟨h5, hs⟩, hks⟩ := h
    obtain ⟨ho1, ho12, hkn, hlit⟩ := sound_op hs
    have hK : ∀ (j : Nat) t, ks[j]? = some t → (flatB (condP t)).length ≤ 50 * 3 ^ (6 - (n + 1)) := fun j t ht => ih j t ht (n + 1) (shapedL_at hks j t ht)
    have hp : 1 ≤ 3 ^ (6 - (n + 1)) := Nat.one_le_pow _ _ (by decide)
    have e : 3 ^ (6 - n) = 3 ^ (6 - (n + 1)) * 3 := by rw [← Nat.pow_succ]; congr 1; omega
    rw [e, condP]
    generalize 3 ^ (6 - (n + 1)) = p at hK hp ⊢
    unfold condN
    by_cases q1 : d.op = 1
    · rw [if_pos q1]
      have := lit_len d.k d.n d.s.1 h0 h1 (hlit q1)
      omega
    rw [if_neg q1]
    by_cases q2 : d.op = 2
    · rw [if_pos q2]
      have hn : nameB d.al.1 = true ∧ nameB d.fd.1 = true := by
        unfold soundB at hs
        rw [if_neg q1, if_pos q2] at hs
        simp only [Bool.and_eq_true] at hs
        exact ⟨hs.2.1.2, hs.2.2⟩
      have ha := name_size hn.1
      have hf := name_size hn.2
      have e2 : (flatB [d.al.1, dotB, d.fd.1]).length = d.al.1.size + (1 + d.fd.1.size) := by simp [flatB]; omega
      rw [e2]; omega
    rw [if_neg q2]
    by_cases q12 : d.op = 12
    · rw [if_pos q12]
      obtain ⟨t0, rfl⟩ : ∃ t0, ks = [t0] := by
        rw [kidsN, if_pos q12] at hkn
        match ks, hkn with
        | [t0], _ => exact ⟨t0, rfl⟩
      have hk0 := hK 0 t0 rfl
      have e2 : (flatB [[notB], (condL [t0]).getD 0 [], [clB]].flatten).length = 5 + ((flatB (condP t0)).length + 1) := by simp [flatB, condL]; omega
      rw [e2]; omega
    · rw [if_neg q12]
      have h3 : 3 ≤ d.op := by omega
      have h11 : d.op ≤ 11 := by omega
      obtain ⟨t0, t1, rfl⟩ : ∃ t0 t1, ks = [t0, t1] := by
        rw [kidsN, if_neg q12, if_pos ⟨h3, h11⟩] at hkn
        match ks, hkn with
        | [t0, t1], _ => exact ⟨t0, t1, rfl⟩
      have hk0 := hK 0 t0 rfl
      have hk1 := hK 1 t1 rfl
      have hsg := sgB_size d.op.toNat (by omega) (by omega)
      have e2 : (flatB [[opB], (condL [t0, t1]).getD 0 [], [blB, sgB d.op.toNat, blB], (condL [t0, t1]).getD 1 [], [clB]].flatten).length = 1 + ((flatB (condP t0)).length + (1 + ((sgB d.op.toNat).size + (1 + ((flatB (condP t1)).length + 1))))) := by
        simp [flatB, condL]; omega
      rw [e2]; omega
theorem isT_len {t : Tree} (hb : Bnd t) (h : isT t = true) : (flatB (condP t)).length ≤ 12150 := by
  rw [isT_shaped, Bool.and_eq_true] at h
  exact shaped_len hb 1 h.1

/-- The text of a condition, as the document tells it. -/
def exprB (t : Tree) : ByteArray := if isT t then txtB (condP t) else ⟨#[]⟩
theorem exprB_yes {t : Tree} (h : isT t = true) : exprB t = txtB (condP t) := by unfold exprB; rw [if_pos h]
theorem exprB_no {t : Tree} (h : isT t = false) : exprB t = ⟨#[]⟩ := by unfold exprB; rw [h]; rfl

set_option maxRecDepth 100000 in
set_option maxHeartbeats 2000000 in
theorem refShowE_c (d : Dat) (cap : Nat) (a : Option Addr) (ks : List Tree) (hb : Bnd (.mk d ks)) (W : World) (hL : Lies W.heap.size W a ks) :
    Calls Tryd.prog 11 #[d.v a ks.length cap] W fun r W' => r = .returned (.string (exprB (.mk d ks))) ∧ Below W.heap.size W W' := by
  obtain ⟨W0, hW0⟩ : ∃ W0, W0 = W.alloc (.cells (d.cs a ks.length cap) 26) := ⟨_, rfl⟩
  have b0 : Below W.heap.size W W0 := by rw [hW0]; exact (Below.refl _ _).alloc (Nat.le_refl _) _
  have x0 : Box W0 W.heap.size 26 (d.cs a ks.length cap) := by rw [hW0]; exact Box.new _ _ _
  obtain ⟨h0, h1, h2, h3, h4, h5, h6⟩ := x0.seven
  have cS := hide (refIsE_c d cap a ks W0 (hL.on b0))
  obtain ⟨q, hq⟩ : ∃ q, q = isT (.mk d ks) := ⟨_, rfl⟩
  rw [← hq] at cS
  replace hq := hide hq
  go_enter Tryd.func11, Tryd.ntmps11
  go_upto_region 1 with fail
  rw [show Obj.cells #[Value.int .i64 d.op, .int .i64 d.k, .int .i64 d.n, .string d.s.1, .string d.al.1, .string d.fd.1, .slice a ks.length cap] 26 = Obj.cells (d.cs a ks.length cap) 26 from rfl, ← hW0]
  clear hW0
  go_wp2_with fail
  refine (unhide cS).mono ?_
  rintro e W1 ⟨rfl, hb1⟩
  have b1 := b0.trans (hb1.mono b0.size)
  have x1 := x0.on hb1 x0.lt
  clear cS h0 h1 h2 h3 h4 h5 h6
  obtain ⟨h0, h1, h2, h3, h4, h5, h6⟩ := x1.seven
  cases q
  · have H := hide (exprB_no (unhide hq).symm)
    go_wp2_with fail
    go_ret
    exact ⟨by rw [unhide H]; rfl, b1⟩
  have cN := hide (show_c (.mk d ks) (isT_snd hb (unhide hq).symm) a cap W1 (hL.on b1) (Nat.le_trans (isT_len hb (unhide hq).symm) (by decide)))
  have H := hide (exprB_yes (unhide hq).symm)
  rw [← unhide H] at cN
  go_wp2_with fail
  refine (unhide cN).mono ?_
  rintro e W2 ⟨rfl, hb2⟩
  go_wp2_with fail
  go_ret
  exact ⟨rfl, b1.trans (hb2.mono b1.size)⟩

end Go.Proofs.YtfofpenajkaalaaDoor
