/-
  What hasBadKind and slices.ContainsFunc over it answer of fields: for every row of them, in whatever world; nothing that lay is turned.
-/
import Derived.Test.YtndjoopnldnckaaSort
namespace Go.Proofs.Ytndjoopnldnckaa
open Go.RowKit Go.Shelf

/-- A field: its name, its kind. -/
abbrev Fd := Txt × Int
abbrev fd (fs : List Fd) (j : Nat) : Fd := fs[j]?.getD default
/-- The slice at a has these fields, below n₀. -/
def Flds (n₀ : Nat) (W : World) (a : Option Addr) (fs : List Fd) : Prop :=
  fs = [] ∨ ∃ b off, a = some ⟨b, off, none⟩ ∧ b < n₀ ∧ ∀ j, j < fs.length → W.cell? ⟨b, off + j * 2, none⟩ = some (.string (fd fs j).1.1) ∧ W.cell? ⟨b, off + j * 2 + 1, none⟩ = some (.int .i64 (fd fs j).2)
theorem Flds.below {n₀ : Nat} {A B : World} (h : Below n₀ A B) {a : Option Addr} {fs : List Fd} : Flds n₀ A a fs → Flds n₀ B a fs
  | .inl e => .inl e
  | .inr ⟨b, off, e, hb, hc⟩ => .inr ⟨b, off, e, hb, fun j hj => ⟨(h.cell (p := ⟨b, off + j * 2, none⟩) hb).trans (hc j hj).1, (h.cell (p := ⟨b, off + j * 2 + 1, none⟩) hb).trans (hc j hj).2⟩⟩
theorem Flds.mono {n₀ n₁ : Nat} (hn : n₀ ≤ n₁) {A : World} {a : Option Addr} {fs : List Fd} : Flds n₀ A a fs → Flds n₁ A a fs
  | .inl e => .inl e
  | .inr ⟨b, off, e, hb, hc⟩ => .inr ⟨b, off, e, Nat.lt_of_lt_of_le hb hn, hc⟩
theorem Flds.on {A B : World} {a : Option Addr} {fs : List Fd} (h : Flds A.heap.size A a fs) (hb : Below A.heap.size A B) : Flds B.heap.size B a fs := (h.below hb).mono hb.size
def fnames (fs : List Fd) : List Txt := fs.map fun f => f.1
theorem fnames_len (fs : List Fd) : (fnames fs).length = fs.length := by simp [fnames]
theorem Flds.names {n₀ : Nat} {W : World} {a : Option Addr} {fs : List Fd} : Flds n₀ W a fs → FNames n₀ W a (fnames fs)
  | .inl e => .inl (by rw [e]; rfl)
  | .inr ⟨b, off, e, hb, hc⟩ => .inr ⟨b, off, e, hb, fun j hj => by
      rw [fnames_len] at hj
      refine ⟨(hc j hj).1.trans ?_, _, (hc j hj).2⟩
      simp [fd, tx, fnames, hj]⟩

/-- No kind that there is. -/
def badK (k : Int) : Bool := !(decide (k = 1) || decide (k = 2) || decide (k = 3))
theorem isB_zero (k : Int) : isB (zeroK k) 0 ⟨#[]⟩ = !badK k := by
  have e : (⟨#[]⟩ : ByteArray).toList = [] := by unfold ByteArray.toList ByteArray.toList.loop; rfl
  have t : isTextB ⟨#[]⟩ = true := by decide
  have i : inB 0 1 0 = true := by decide
  unfold zeroK badK
  by_cases h1 : k = 1
  · subst h1; simp [isB, e]
  by_cases h2 : k = 2
  · subst h2; simp [isB, t]
  by_cases h3 : k = 3
  · subst h3; simp [isB, e, i]
  · simp [isB, h1, h2, h3]

set_option maxHeartbeats 400000 in
theorem badKind28 (s : ByteArray) (k : Int) (w : World) :
    Calls Try.prog 28 #[.agg #[.string s, .int .i64 k]] w fun e w' => e = .returned (.bool (badK k)) ∧ Below w.heap.size w w' := by
  have hk := isB_zero k
  go_enter Try.func28, Try.ntmps28
  go_wp2_with fail
  refine (zero37 _ _).mono ?_
  rintro e w1 ⟨rfl, hb1⟩
  go_wp2_with fail
  refine (is36 _ _ _ _ (by decide)).mono ?_
  rintro e w2 ⟨rfl, hb2⟩
  rw [hk]
  clear hk
  go_wp2_with fail
  go_ret
  have b1 := ((Below.refl _ w).alloc (Nat.le_refl _) (.cells #[.string s, .int .i64 k] 31)).trans (hb1.mono (by simp))
  exact ⟨by simp, b1.trans (hb2.mono b1.size)⟩

def anyBad (fs : List Fd) : Bool := fs.any fun f => badK f.2
theorem anyBad_snoc (fs : List Fd) (f : Fd) : anyBad (fs ++ [f]) = (anyBad fs || badK f.2) := by simp [anyBad]

set_option maxHeartbeats 1000000 in
theorem index35 (a : Option Addr) (cap : Nat) (fs : List Fd) (h5 : fs.length ≤ 5) (w : World) (hF : Flds w.heap.size w a fs) :
    Calls Try.prog 35 #[.slice a fs.length cap, .func (.func 28) #[] #[]] w fun e w' => ∃ i : Int, e = .returned (.int .i64 i) ∧ decide (0 ≤ i) = anyBad fs ∧ Below w.heap.size w w' := by
  rcases hF with rfl | ⟨b, off, rfl, hb, hc⟩
  · go_enter Try.func35, Try.ntmps35
    go_wp2
    go_loopw [8] (fun i wr => i = .int .i64 0 ∧ Below w.heap.size w wr) (fun _ _ => 0)
    case atStart => exact ⟨rfl, Below.refl _ _⟩
    case round =>
      obtain ⟨rfl, hb⟩ := hrel
      go_wp2
      go_ret
      exact ⟨_, rfl, by simp [anyBad], hb⟩
  · have hc := hide hc
    go_enter Try.func35, Try.ntmps35
    go_wp2
    go_loopw [8] (fun i wr => ∃ k : Nat, k ≤ fs.length ∧ i = .int .i64 k ∧ anyBad (fs.take k) = false ∧ Below w.heap.size w wr) (fun i _ => fs.length - (intOf i).toNat)
    case atStart => exact ⟨0, Nat.zero_le _, rfl, rfl, Below.refl _ _⟩
    case round =>
      obtain ⟨k, hk, rfl, hall, hbw⟩ := hrel
      have H := hide hall
      clear hall
      by_cases hlt : k < fs.length
      · have hc1 : wr.cell? ⟨b, off + k * 2, none⟩ = some (.string (fd fs k).1.1) := (hbw.cell (p := ⟨b, off + k * 2, none⟩) hb).trans (unhide hc k hlt).1
        have hc2 : wr.cell? ⟨b, off + k * 2 + 1, none⟩ = some (.int .i64 (fd fs k).2) := (hbw.cell (p := ⟨b, off + k * 2 + 1, none⟩) hb).trans (unhide hc k hlt).2
        have hsucc := hide (show fs.take (k + 1) = fs.take k ++ [fd fs k] by rw [List.take_succ_eq_append_getElem hlt]; simp [fd, hlt])
        cases hbad : badK (fd fs k).2
        · go_wp2_with fail
          refine (badKind28 _ _ _).mono ?_
          rintro e w2 ⟨rfl, hb2⟩
          rw [hbad]
          go_wp2_with fail
          go_roundw
          case rel => exact ⟨k + 1, by omega, by go_num, by rw [unhide hsucc, anyBad_snoc, unhide H, hbad]; rfl, hbw.trans (hb2.mono hbw.size)⟩
          case measure => simp [intOf]; omega
        · go_wp2_with fail
          refine (badKind28 _ _ _).mono ?_
          rintro e w2 ⟨rfl, hb2⟩
          rw [hbad]
          go_wp2_with fail
          go_ret
          refine ⟨_, rfl, ?_, hbw.trans (hb2.mono hbw.size)⟩
          have h1 : anyBad (fs.take (k + 1)) = true := by rw [unhide hsucc, anyBad_snoc, hbad, Bool.or_true]
          have h2 : anyBad fs = true := by
            unfold anyBad at h1 ⊢
            rw [List.any_eq_true] at h1 ⊢
            obtain ⟨x, hx, hb⟩ := h1
            exact ⟨x, List.mem_of_mem_take hx, hb⟩
          rw [h2]; simp
      · go_wp2
        go_ret
        refine ⟨_, rfl, ?_, hbw⟩
        have := unhide H
        rw [List.take_of_length_le (by omega)] at this
        rw [this]; rfl

set_option maxHeartbeats 400000 in
theorem contains27 (a : Option Addr) (cap : Nat) (fs : List Fd) (h5 : fs.length ≤ 5) (w : World) (hF : Flds w.heap.size w a fs) :
    Calls Try.prog 27 #[.slice a fs.length cap, .func (.func 28) #[] #[]] w fun e w' => e = .returned (.bool (anyBad fs)) ∧ Below w.heap.size w w' := by
  go_enter Try.func27, Try.ntmps27
  go_wp2_with fail
  refine (index35 a cap fs h5 w hF).mono ?_
  rintro e w1 ⟨i, rfl, hi, hb1⟩
  have hi := hide hi
  go_wp2_with fail
  go_ret
  exact ⟨by rw [← unhide hi]; rfl, hb1⟩

end Go.Proofs.Ytndjoopnldnckaa
