/-
  What the two iterators over a row of texts give, and what Rise answers: for every row of texts (in memory that is there, the nil one too), in whatever world; nothing that lay is turned.
-/
import Derived.Test.YtfofpenajkaalaaDoorVal
import Derived.RangeFuncBox
import Derived.RangeFuncNested
import Derived.RangeFuncBound
import Derived.RangeFuncCalls
import Derived.RangeFuncLeaves
import Derived.Shelf.Abstract
import Derived.Shelf.RegionOpen
import Derived.OwnWalkIn
import Derived.TacticsInMore
import Derived.LoopNIn
import Derived.LoopIn
import Derived.Maps.AppendAt
namespace Go.Proofs.YtfofpenajkaalaaDoor
open Go.RowKit Go.Shelf

attribute [local go_sem] Oper.semAt_some

/-- What has come when k rounds are over: f 0, .., f (k - 1). -/
def upto {α : Type} (f : Nat → α) (k : Nat) : List α := (List.range k).map f
theorem upto_succ {α : Type} (f : Nat → α) (k : Nat) : upto f (k + 1) = upto f k ++ [f k] := by simp [upto, List.range_succ]
theorem upto_length {α : Type} (f : Nat → α) (k : Nat) : (upto f k).length = k := by simp [upto]

/-- The slice value sv holds the texts ss, in a block below n₀; or it is nil or empty and there are none. -/
def Strs (n₀ : Nat) (W : World) (sv : Value) (ss : List ByteArray) : Prop :=
  (∃ a cap, sv = .slice a 0 cap ∧ ss = []) ∨ ∃ b off cap, sv = .slice (some ⟨b, off, none⟩) ss.length cap ∧ b < n₀ ∧ ∀ j, j < ss.length → W.cell? ⟨b, off + j, none⟩ = some (.string (ss[j]?.getD ByteArray.empty))
theorem Strs.below {n₀ : Nat} {A B : World} (h : Below n₀ A B) {sv : Value} {ss : List ByteArray} : Strs n₀ A sv ss → Strs n₀ B sv ss
  | .inl e => .inl e
  | .inr ⟨b, off, cap, e, hb, hc⟩ => .inr ⟨b, off, cap, e, hb, fun j hj => (h.cell (p := ⟨b, off + j, none⟩) hb).trans (hc j hj)⟩
theorem Strs.mono {n₀ n₁ : Nat} (h : n₀ ≤ n₁) {A : World} {sv : Value} {ss : List ByteArray} : Strs n₀ A sv ss → Strs n₁ A sv ss
  | .inl e => .inl e
  | .inr ⟨b, off, cap, e, hb, hc⟩ => .inr ⟨b, off, cap, e, Nat.lt_of_lt_of_le hb h, hc⟩

set_option maxRecDepth 100000 in
set_option maxHeartbeats 2000000 in
theorem pairs1_in (n : Nat) (hn : 1 ≤ n) (l Bs n₀ b off len cap : Nat) (ss : List ByteArray) (hreach : len * 16 ≤ 140737488351232) (hb : b < n₀) (hBn : Bs < n₀) (J Jx : List (ByteArray × ByteArray) → World → Prop)
    (hdr : ∀ pre W, J pre W → J pre W.drew)
    (hY : ∀ pre x W, J pre W → pre.length < len - 1 → YieldAt Fence.wide (n - 1) Tryd.prog l #[.string x.1, .string x.2] W fun e W' =>
      (e = .returned (.bool true) ∧ J (pre ++ [x]) W' ∧ Below n₀ W W') ∨ (e = .returned (.bool false) ∧ Jx (pre ++ [x]) W'))
    (W : World) (hBs : W.cell? ⟨Bs, 0, none⟩ = some (.slice (some ⟨b, off, none⟩) len cap)) (hc : ∀ j, j < len → W.cell? ⟨b, off + j, none⟩ = some (.string (ss[j]?.getD ByteArray.empty))) (h0 : J [] W) :
    CallsIn Fence.wide n Tryd.prog 100 #[.func (.yield l) #[] #[], .pointer (some ⟨Bs, 0, none⟩)] W fun e W' => (∃ v, e = .returned v) ∧
      ((∃ ys, ys = upto (fun j => (ss[j]?.getD ByteArray.empty, ss[j + 1]?.getD ByteArray.empty)) (len - 1) ∧ J ys W') ∨ (∃ pre, (∃ k, k ≤ len - 1 ∧ pre = upto (fun j => (ss[j]?.getD ByteArray.empty, ss[j + 1]?.getD ByteArray.empty)) k) ∧ Jx pre W')) := by
  refine callsIn_of_wp Tryd.func100 rfl trivial ?_ rfl
  simp only [Tryd.ntmps100, List.size_toArray, List.length_cons, List.length_nil, Nat.reduceAdd, Nat.reduceSub, Array.replicate_succ, Array.replicate_zero, List.push_toArray, List.append_toArray, List.nil_append, List.cons_append]
  gi_wp2
  gi_loopw [3] (fun i wr => ∃ k : Nat, k ≤ len - 1 ∧ i = .int .i64 (k + 1) ∧ J (upto (fun j => (ss[j]?.getD ByteArray.empty, ss[j + 1]?.getD ByteArray.empty)) k) wr ∧ Below n₀ W wr)
    (fun i _ => len - (intOf i).toNat)
  case atStart => exact ⟨0, Nat.zero_le _, rfl, h0, Below.refl _ _⟩
  case round =>
    obtain ⟨k, hk, rfl, hJs, hnx⟩ := hrel
    have hbs : wr.cell? ⟨Bs, 0, none⟩ = some (.slice (some ⟨b, off, none⟩) len cap) := (hnx.cell (p := ⟨Bs, 0, none⟩) hBn).trans hBs
    by_cases hlt : k + 1 < len
    · have hc1 : wr.cell? ⟨b, off + k, none⟩ = some (.string (ss[k]?.getD ByteArray.empty)) := (hnx.cell (p := ⟨b, off + k, none⟩) hb).trans (hc k (by omega))
      have hc2 : wr.cell? ⟨b, off + (k + 1), none⟩ = some (.string (ss[k + 1]?.getD ByteArray.empty)) := (hnx.cell (p := ⟨b, off + (k + 1), none⟩) hb).trans (hc (k + 1) hlt)
      have hmx : Tryd.prog.follows .mixedOrders = true := by kernel_rfl
      obtain ⟨fn, tmps, assign, body, hy, hR⟩ := (hY _ (ss[k]?.getD ByteArray.empty, ss[k + 1]?.getD ByteArray.empty) wr.drew (hdr _ _ hJs) (by rw [upto_length]; omega)).mono
        (R' := fun e W' => ∃ bb : Bool, e = .returned (.bool bb) ∧ Hid ((bb = true ∧ J (upto (fun j => (ss[j]?.getD ByteArray.empty, ss[j + 1]?.getD ByteArray.empty)) k ++ [(ss[k]?.getD ByteArray.empty, ss[k + 1]?.getD ByteArray.empty)]) W' ∧ Below n₀ wr.drew W') ∨ (bb = false ∧ Jx (upto (fun j => (ss[j]?.getD ByteArray.empty, ss[j + 1]?.getD ByteArray.empty)) k ++ [(ss[k]?.getD ByteArray.empty, ss[k + 1]?.getD ByteArray.empty)]) W')))
        (fun e W' h => by
          rcases h with ⟨rfl, h⟩ | ⟨rfl, h⟩
          · exact ⟨true, rfl, .inl ⟨rfl, h⟩⟩
          · exact ⟨false, rfl, .inr ⟨rfl, h⟩⟩)
      dsimp only at hy
      have hk1 : (k : Int) + 1 < len := by omega
      have hk2 : (0 : Int) ≤ k := by omega
      have hk3 : (k : Int) < len := by omega
      have hw1 : IntKind.i64.wrap (k : Int) = k := by rw [IntKind.wrap_i64]; omega
      gi_wp2
      gi_region_with_o (refine hR.mono ?_; rintro e W3 ⟨bb, rfl, hbb⟩)
      all_goals
        rcases unhide hbb with ⟨rfl, hJ3, hk3⟩ | ⟨rfl, hJx3⟩
        · clear hbb hR hy
          gi_wp2
          go_roundw
          case rel => exact ⟨k + 1, by omega, by go_num, by rw [upto_succ]; exact hJ3, hnx.drew.trans hk3⟩
          case measure => simp [intOf]; omega
        · clear hbb hR hy
          gi_wp2
          refine bodyPost_ret (results_none rfl _ _ _) rfl ?_
          exact ⟨⟨_, rfl⟩, .inr ⟨_, ⟨k + 1, by omega, (upto_succ _ _).symm⟩, hJx3⟩⟩
    · have hke : k = len - 1 := by omega
      have hk1 : ¬ (k : Int) + 1 < len := by omega
      have H := hide hke
      clear hke
      gi_wp2
      go_end0
      exact ⟨⟨_, rfl⟩, .inl (by rw [← unhide H]; exact hJs)⟩

set_option maxRecDepth 100000 in
set_option maxHeartbeats 1000000 in
theorem pairs1_nil_in (n : Nat) (l Bs : Nat) (a : Option Addr) (cap : Nat) (J : List (ByteArray × ByteArray) → World → Prop) (W : World) (hBs : W.cell? ⟨Bs, 0, none⟩ = some (.slice a 0 cap)) (h0 : J [] W) :
    CallsIn Fence.wide n Tryd.prog 100 #[.func (.yield l) #[] #[], .pointer (some ⟨Bs, 0, none⟩)] W fun e W' => (∃ v, e = .returned v) ∧ J [] W' := by
  refine callsIn_of_wp Tryd.func100 rfl trivial ?_ rfl
  simp only [Tryd.ntmps100, List.size_toArray, List.length_cons, List.length_nil, Nat.reduceAdd, Nat.reduceSub, Array.replicate_succ, Array.replicate_zero, List.push_toArray, List.append_toArray, List.nil_append, List.cons_append]
  gi_wp2
  gi_loopw [3] (fun i wr => i = .int .i64 1 ∧ J [] wr ∧ wr.cell? ⟨Bs, 0, none⟩ = some (.slice a 0 cap)) (fun _ _ => 0)
  case atStart => exact ⟨rfl, h0, hBs⟩
  case round =>
    obtain ⟨rfl, hJs, hcs⟩ := hrel
    gi_wp2
    go_end0
    exact ⟨⟨_, rfl⟩, hJs⟩

set_option maxHeartbeats 1000000 in
theorem pairs_in (n : Nat) (a : Option Addr) (len cap : Nat) (w : World) :
    CallsIn Fence.wide n Tryd.prog 97 #[.slice a len cap] w fun e w' => e = .returned (.func (.func 100) #[] #[.pointer (some ⟨w.heap.size, 0, none⟩)]) ∧ w' = w.alloc (.cells #[.slice a len cap] 124) := by
  refine callsIn_of_wp Tryd.func97 rfl trivial ?_ rfl
  simp only [Tryd.ntmps97, List.size_toArray, List.length_cons, List.length_nil, Nat.reduceAdd, Nat.reduceSub, Array.replicate_succ, Array.replicate_zero, List.push_toArray, List.append_toArray, List.nil_append, List.cons_append]
  gi_wp2
  go_ret
  exact ⟨rfl, rfl⟩

/-- The pairs of neighbours, the first k of them. -/
def pairsTo (ss : List ByteArray) (k : Nat) : List (ByteArray × ByteArray) := upto (fun j => (ss[j]?.getD ByteArray.empty, ss[j + 1]?.getD ByteArray.empty)) k

theorem drew_of_abides {α : Type} {B : Nat} {J : List α → World → Prop} (h : AbidesFrom B J) (pre : List α) (W : World) (hj : J pre W) : J pre W.drew :=
  h pre W W.drew none hj ⟨rfl, rfl, rfl, Nat.le_refl _, fun _ _ _ => rfl⟩ (fun r e => by cases e)

theorem pairs_stops (n : Nat) (hn : 1 ≤ n) (Bs n₀ : Nat) (sv : Value) (ss : List ByteArray) (hreach : ss.length * 16 ≤ 140737488351232) (w : World) (hBs : Bs < n₀) (hn₀ : n₀ ≤ w.heap.size)
    (hc : w.cell? ⟨Bs, 0, none⟩ = some sv) (hI : Strs n₀ w sv ss) :
    SeqStopsK Fence.wide n Tryd.prog 100 #[.pointer (some ⟨Bs, 0, none⟩)] (fun x : ByteArray × ByteArray => #[Value.string x.1, Value.string x.2]) (Below n₀) (fun ys => ys = pairsTo ss (ss.length - 1))
      (fun pre => ∃ k, k ≤ ss.length - 1 ∧ pre = pairsTo ss k) (ss.length - 1) w := fun l J Jx W hW hJ _ hY h0 => by
  have hc' := (hW.cell (p := ⟨Bs, 0, none⟩) (Nat.lt_of_lt_of_le hBs hn₀)).trans hc
  rcases hI.below (hW.mono hn₀) with ⟨a, cap, rfl, rfl⟩ | ⟨b, off, cap, rfl, hb, hcs⟩
  · exact (pairs1_nil_in n l Bs a cap J W hc' h0).mono fun e W' ⟨he, hj⟩ => ⟨he, .inl ⟨_, rfl, hj⟩⟩
  · exact pairs1_in n hn l Bs n₀ b off ss.length cap ss hreach hb hBs J Jx (drew_of_abides hJ) hY W hc' hcs h0

end Go.Proofs.YtfofpenajkaalaaDoor

