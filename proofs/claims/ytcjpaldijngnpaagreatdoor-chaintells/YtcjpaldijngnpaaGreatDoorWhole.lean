/-
  What isNoValue, slices.ContainsFunc over it and isWhole answer: for every type and event of at most 20 values, in whatever world; nothing that lay is turned.
-/
import Derived.Test.YtcjpaldijngnpaaGreatDoorCopy
namespace Go.Proofs.YtcjpaldijngnpaaGreatDoor
open Go.RowKit Go.Shelf

/-- None that may be. -/
def noV (v : Vl) : Bool := !isB v.1 v.2.1 v.2.2.1

set_option maxHeartbeats 400000 in
theorem noV_c (v : Vl) (w : World) :
    Calls Tryz.prog 97 #[.agg #[.int .i64 v.1, .int .i64 v.2.1, .string v.2.2.1]] w fun e w' => e = .returned (.bool (noV v)) ∧ Below w.heap.size w w' := by
  obtain ⟨k, n, s⟩ := v
  simp only
  go_enter Tryz.func97, Tryz.ntmps97
  go_wp2_with fail
  refine (valIs_c _ _ _ _ s.2).mono ?_
  rintro e w1 ⟨rfl, hb1⟩
  go_wp2_with fail
  go_ret
  exact ⟨rfl, ((Below.refl _ w).alloc (Nat.le_refl _) _).trans (hb1.mono (by simp))⟩

def anyNo (vs : List Vl) : Bool := vs.any noV
theorem anyNo_snoc (vs : List Vl) (v : Vl) : anyNo (vs ++ [v]) = (anyNo vs || noV v) := by simp [anyNo]

set_option maxHeartbeats 1000000 in
theorem indexV_c (a : Option Addr) (cap : Nat) (vs : List Vl) (h20 : vs.length ≤ 20) (w : World) (hV : Vals w.heap.size w a vs) :
    Calls Tryz.prog 109 #[.slice a vs.length cap, .func (.func 97) #[] #[]] w fun e w' => ∃ i : Int, e = .returned (.int .i64 i) ∧ decide (0 ≤ i) = anyNo vs ∧ Below w.heap.size w w' := by
  rcases hV with rfl | ⟨b, off, rfl, hb, hc⟩
  · go_enter Tryz.func109, Tryz.ntmps109
    go_wp2
    go_loopw [8] (fun i wr => i = .int .i64 0 ∧ Below w.heap.size w wr) (fun _ _ => 0)
    case atStart => exact ⟨rfl, Below.refl _ _⟩
    case round =>
      obtain ⟨rfl, hb⟩ := hrel
      go_wp2
      go_ret
      exact ⟨_, rfl, by simp [anyNo], hb⟩
  · replace hc := hide hc
    go_enter Tryz.func109, Tryz.ntmps109
    go_wp2
    go_loopw [8] (fun i wr => ∃ k : Nat, k ≤ vs.length ∧ i = .int .i64 k ∧ anyNo (vs.take k) = false ∧ Below w.heap.size w wr) (fun i _ => vs.length - (intOf i).toNat)
    case atStart => exact ⟨0, Nat.zero_le _, rfl, rfl, Below.refl _ _⟩
    case round =>
      obtain ⟨k, hk, rfl, hall, hbw⟩ := hrel
      have H := hide hall
      clear hall
      by_cases hlt : k < vs.length
      · have hc1 : wr.cell? ⟨b, off + k * 3, none⟩ = some (.int .i64 (vl vs k).1) := (hbw.cell (p := ⟨b, off + k * 3, none⟩) hb).trans (unhide hc k hlt).1
        have hc2 : wr.cell? ⟨b, off + k * 3 + 1, none⟩ = some (.int .i64 (vl vs k).2.1) := (hbw.cell (p := ⟨b, off + k * 3 + 1, none⟩) hb).trans (unhide hc k hlt).2.1
        have hc3 : wr.cell? ⟨b, off + k * 3 + 2, none⟩ = some (.string (vl vs k).2.2.1) := (hbw.cell (p := ⟨b, off + k * 3 + 2, none⟩) hb).trans (unhide hc k hlt).2.2
        have hsucc := hide (show vs.take (k + 1) = vs.take k ++ [vl vs k] by rw [List.take_succ_eq_append_getElem hlt]; simp [vl, hlt])
        cases hbad : noV (vl vs k)
        · go_wp2_with fail
          refine (noV_c _ _).mono ?_
          rintro e w2 ⟨rfl, hb2⟩
          rw [hbad]
          go_wp2_with fail
          go_roundw
          case rel => exact ⟨k + 1, by omega, by go_num, by rw [unhide hsucc, anyNo_snoc, unhide H, hbad]; rfl, hbw.trans (hb2.mono hbw.size)⟩
          case measure => simp [intOf]; omega
        · go_wp2_with fail
          refine (noV_c _ _).mono ?_
          rintro e w2 ⟨rfl, hb2⟩
          rw [hbad]
          go_wp2_with fail
          go_ret
          refine ⟨_, rfl, ?_, hbw.trans (hb2.mono hbw.size)⟩
          have h1 : anyNo (vs.take (k + 1)) = true := by rw [unhide hsucc, anyNo_snoc, hbad, Bool.or_true]
          have h2 : anyNo vs = true := by
            unfold anyNo at h1 ⊢
            rw [List.any_eq_true] at h1 ⊢
            obtain ⟨x, hx, hb⟩ := h1
            exact ⟨x, List.mem_of_mem_take hx, hb⟩
          rw [h2]; simp
      · go_wp2
        go_ret
        refine ⟨_, rfl, ?_, hbw⟩
        have := unhide H
        rw [List.take_of_length_le (by omega)] at this
        rw [this]; rfl

set_option maxHeartbeats 400000 in
theorem containsV_c (a : Option Addr) (cap : Nat) (vs : List Vl) (h20 : vs.length ≤ 20) (w : World) (hV : Vals w.heap.size w a vs) :
    Calls Tryz.prog 96 #[.slice a vs.length cap, .func (.func 97) #[] #[]] w fun e w' => e = .returned (.bool (anyNo vs)) ∧ Below w.heap.size w w' := by
  go_enter Tryz.func96, Tryz.ntmps96
  go_wp2_with fail
  refine (indexV_c a cap vs h20 w hV).mono ?_
  rintro e w1 ⟨i, rfl, hi, hb1⟩
  have hi := hide hi
  go_wp2_with fail
  go_ret
  exact ⟨by rw [← unhide hi]; rfl, hb1⟩

/-- In time, as many values as fields, each of them one. -/
def wholeB (nf : Nat) (ts : Int) (vs : List Vl) : Bool := (decide (0 ≤ ts) && decide (ts ≤ 1073741824)) && decide (vs.length = nf) && !anyNo vs

set_option maxHeartbeats 1000000 in
theorem whole_c (nm t : ByteArray) (ts : Int) (af a : Option Addr) (nf capf cap : Nat) (vs : List Vl) (h20 : vs.length ≤ 20) (w : World) (hV : Vals w.heap.size w a vs) :
    Calls Tryz.prog 68 #[.agg #[.string nm, .slice af nf capf], .agg #[.string t, .int .i64 ts, .slice a vs.length cap]] w fun e w' => e = .returned (.bool (wholeB nf ts vs)) ∧ Below w.heap.size w w' := by
  have b0 : Below w.heap.size w ((w.alloc (.cells #[.string nm, .slice af nf capf] 69)).alloc (.cells #[.string t, .int .i64 ts, .slice a vs.length cap] 28)) := ((Below.refl _ _).alloc (Nat.le_refl _) _).alloc (by simp) _
  have s0 := hV.on b0
  by_cases h1 : 0 ≤ ts
  · by_cases h2 : ts ≤ 1073741824
    · by_cases h3 : vs.length = nf
      · have H := hide (show wholeB nf ts vs = !anyNo vs by simp [wholeB, h1, h2, h3])
        subst h3
        go_enter Tryz.func68, Tryz.ntmps68
        go_wp2_with fail
        refine (containsV_c a cap vs h20 _ s0).mono ?_
        rintro e w1 ⟨rfl, hb1⟩
        go_wp2_with fail
        go_ret
        exact ⟨by rw [unhide H]; rfl, b0.trans (hb1.mono b0.size)⟩
      · have H := hide (show wholeB nf ts vs = false by simp [wholeB, h3])
        have h3' : ((vs.length : Int) == nf) = false := by simp; omega
        clear h3
        go_enter Tryz.func68, Tryz.ntmps68
        go_wp2_with fail
        go_ret
        exact ⟨by rw [unhide H]; rfl, b0⟩
    · have H := hide (show wholeB nf ts vs = false by simp [wholeB, h2])
      go_enter Tryz.func68, Tryz.ntmps68
      go_wp2_with fail
      go_ret
      exact ⟨by rw [unhide H]; rfl, b0⟩
  · have H := hide (show wholeB nf ts vs = false by simp [wholeB, h1])
    go_enter Tryz.func68, Tryz.ntmps68
    go_wp2_with fail
    go_ret
    exact ⟨by rw [unhide H]; rfl, b0⟩

end Go.Proofs.YtcjpaldijngnpaaGreatDoor
