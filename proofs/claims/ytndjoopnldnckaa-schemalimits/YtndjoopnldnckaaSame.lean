/-
  What Same answers of a schema and itself (true), and of two of unlike lengths (false): for every schema, in whatever world; nothing that lay is turned.
-/
import Derived.Test.YtndjoopnldnckaaFind
namespace Go.Proofs.Ytndjoopnldnckaa
open Go.RowKit Go.Shelf

theorem below_dn {B : Nat} {a w : World} (h : Below B a w) (n : Nat) : Below B a (w.drewN n) := ⟨h.os, h.tape, h.output, h.size, h.block⟩

set_option maxHeartbeats 1000000 in
theorem equal30_self (a : Option Addr) (cap : Nat) (fs : List Fd) (h5 : fs.length ≤ 5) (w : World) (hF : Flds w.heap.size w a fs) :
    Calls Try.prog 30 #[.slice a fs.length cap, .slice a fs.length cap] w fun e w' => e = .returned (.bool true) ∧ Below w.heap.size w w' := by
  rcases hF with rfl | ⟨b, off, rfl, hb, hc⟩
  · go_enter Try.func30, Try.ntmps30
    go_wp2
    go_loopw [13] (fun i wr => i = .int .i64 0 ∧ Below w.heap.size w wr) (fun _ _ => 0)
    case atStart => exact ⟨rfl, Below.refl _ _⟩
    case round =>
      obtain ⟨rfl, hb⟩ := hrel
      go_wp2
      go_ret
      exact ⟨rfl, hb⟩
  · have hc := hide hc
    go_enter Try.func30, Try.ntmps30
    go_wp2
    go_loopw [13] (fun i wr => ∃ k : Nat, k ≤ fs.length ∧ i = .int .i64 k ∧ Below w.heap.size w wr) (fun i _ => fs.length - (intOf i).toNat)
    case atStart => exact ⟨0, Nat.zero_le _, rfl, Below.refl _ _⟩
    case round =>
      obtain ⟨k, hk, rfl, hbw⟩ := hrel
      by_cases hlt : k < fs.length
      · have hc1 : wr.cell? ⟨b, off + k * 2, none⟩ = some (.string (fd fs k).1.1) := (hbw.cell (p := ⟨b, off + k * 2, none⟩) hb).trans (unhide hc k hlt).1
        have hc2 : wr.cell? ⟨b, off + k * 2 + 1, none⟩ = some (.int .i64 (fd fs k).2) := (hbw.cell (p := ⟨b, off + k * 2 + 1, none⟩) hb).trans (unhide hc k hlt).2
        go_wp2
        go_quiet (fail)
        all_goals go_wp2
        all_goals
          go_roundw
          case rel => exact ⟨k + 1, by omega, by go_num, below_dn hbw _⟩
          case measure => simp [intOf]; omega
      · go_wp2
        go_ret
        exact ⟨rfl, hbw⟩

set_option maxHeartbeats 1000000 in
theorem sameType20_self (s : ByteArray) (a : Option Addr) (cap : Nat) (fs : List Fd) (h5 : fs.length ≤ 5) (w : World) (hF : Flds w.heap.size w a fs) :
    Calls Try.prog 20 #[.agg #[.string s, .slice a fs.length cap], .agg #[.string s, .slice a fs.length cap]] w fun e w' => e = .returned (.bool true) ∧ Below w.heap.size w w' := by
  have b0 : Below w.heap.size w ((w.alloc (.cells #[.string s, .slice a fs.length cap] 29)).alloc (.cells #[.string s, .slice a fs.length cap] 29)) := ((Below.refl _ _).alloc (Nat.le_refl _) _).alloc (by simp) _
  have s0 := hF.on b0
  go_enter Try.func20, Try.ntmps20
  go_wp2_with fail
  refine (equal30_self a cap fs h5 _ s0).mono ?_
  rintro e w1 ⟨rfl, hb1⟩
  go_wp2_with fail
  go_ret
  exact ⟨rfl, b0.trans (hb1.mono b0.size)⟩

set_option maxHeartbeats 1000000 in
theorem equalFunc19_self (a : Option Addr) (cap : Nat) (ts : List Ty) (h5 : ts.length ≤ 5) (hk5 : ∀ k, (ty ts k).2.length ≤ 5) (w : World) (hT : Typs w.heap.size w a ts) :
    Calls Try.prog 19 #[.slice a ts.length cap, .slice a ts.length cap, .func (.func 20) #[] #[]] w fun e w' => e = .returned (.bool true) ∧ Below w.heap.size w w' := by
  rcases hT with rfl | ⟨b, off, rfl, hb, hc⟩
  · go_enter Try.func19, Try.ntmps19
    go_wp2
    go_loopw [17] (fun i wr => i = .int .i64 0 ∧ Below w.heap.size w wr) (fun _ _ => 0)
    case atStart => exact ⟨rfl, Below.refl _ _⟩
    case round =>
      obtain ⟨rfl, hb⟩ := hrel
      go_wp2
      go_ret
      exact ⟨rfl, hb⟩
  · have hc := hide hc
    go_enter Try.func19, Try.ntmps19
    go_wp2
    go_loopw [17] (fun i wr => ∃ k : Nat, k ≤ ts.length ∧ i = .int .i64 k ∧ Below w.heap.size w wr) (fun i _ => ts.length - (intOf i).toNat)
    case atStart => exact ⟨0, Nat.zero_le _, rfl, Below.refl _ _⟩
    case round =>
      obtain ⟨k, hk, rfl, hbw⟩ := hrel
      by_cases hlt : k < ts.length
      · obtain ⟨g1, a', c', g2, g3, g4⟩ := unhide hc k hlt
        have hc1 : wr.cell? ⟨b, off + k * 2, none⟩ = some (.string (ty ts k).1.1) := (hbw.cell (p := ⟨b, off + k * 2, none⟩) hb).trans g1
        have hc2 : wr.cell? ⟨b, off + k * 2 + 1, none⟩ = some (.slice a' (ty ts k).2.length c') := (hbw.cell (p := ⟨b, off + k * 2 + 1, none⟩) hb).trans g2
        have hk5' := hk5 k
        have hlb : b < wr.heap.size := Nat.lt_of_lt_of_le hb hbw.size
        have b1 : Below wr.heap.size wr ((wr.alloc (.cells #[.string (ty ts k).1.1, .slice a' (ty ts k).2.length c'] 29)).alloc (.cells #[.string (ty ts k).1.1, .slice a' (ty ts k).2.length c'] 29)) := ((Below.refl _ _).alloc (Nat.le_refl _) _).alloc (by simp) _
        have s1 := (g3.on hbw).on b1
        clear g1 g2 g3
        go_wp2_with fail
        refine (sameType20_self _ _ _ _ hk5' _ s1).mono ?_
        rintro e w2 ⟨rfl, hb2⟩
        go_wp2_with fail
        go_roundw
        case rel => exact ⟨k + 1, by omega, by go_num, hbw.trans ((b1.trans (hb2.mono b1.size)).mono hbw.size)⟩
        case measure => simp [intOf]; omega
      · go_wp2
        go_ret
        exact ⟨rfl, hbw⟩

set_option maxHeartbeats 1000000 in
theorem same9_self (a : Option Addr) (cap : Nat) (ts : List Ty) (h5 : ts.length ≤ 5) (hk5 : ∀ k, (ty ts k).2.length ≤ 5) (w : World) (hT : Typs w.heap.size w a ts) :
    Calls Try.prog 9 #[.agg #[.slice a ts.length cap], .agg #[.slice a ts.length cap]] w fun e w' => e = .returned (.bool true) ∧ Below w.heap.size w w' := by
  have b0 : Below w.heap.size w ((w.alloc (.cells #[.slice a ts.length cap] 25)).alloc (.cells #[.slice a ts.length cap] 25)) := ((Below.refl _ _).alloc (Nat.le_refl _) _).alloc (by simp) _
  have s0 := hT.on b0
  go_enter Try.func9, Try.ntmps9
  go_wp2_with fail
  refine (equalFunc19_self a cap ts h5 hk5 _ s0).mono ?_
  rintro e w1 ⟨rfl, hb1⟩
  go_wp2_with fail
  go_ret
  exact ⟨rfl, b0.trans (hb1.mono b0.size)⟩

set_option maxHeartbeats 1000000 in
theorem equalFunc19_len (a a' : Option Addr) (l cap l' cap' : Nat) (hl : l ≠ l') (w : World) :
    Calls Try.prog 19 #[.slice a l cap, .slice a' l' cap', .func (.func 20) #[] #[]] w fun e w' => e = .returned (.bool false) ∧ Below w.heap.size w w' := by
  have hl' : ((l : Int) == l') = false := by simp; omega
  go_enter Try.func19, Try.ntmps19
  go_wp2
  all_goals
    go_ret
    exact ⟨rfl, Below.refl _ _⟩

set_option maxHeartbeats 1000000 in
theorem same9_len (a a' : Option Addr) (l cap l' cap' : Nat) (hl : l ≠ l') (w : World) :
    Calls Try.prog 9 #[.agg #[.slice a l cap], .agg #[.slice a' l' cap']] w fun e w' => e = .returned (.bool false) ∧ Below w.heap.size w w' := by
  have b0 : Below w.heap.size w ((w.alloc (.cells #[.slice a l cap] 25)).alloc (.cells #[.slice a' l' cap'] 25)) := ((Below.refl _ _).alloc (Nat.le_refl _) _).alloc (by simp) _
  go_enter Try.func9, Try.ntmps9
  go_wp2_with fail
  refine (equalFunc19_len _ _ _ _ _ _ hl _).mono ?_
  rintro e w1 ⟨rfl, hb1⟩
  go_wp2_with fail
  go_ret
  exact ⟨rfl, b0.trans (hb1.mono b0.size)⟩

end Go.Proofs.Ytndjoopnldnckaa
