/-
  What the plain functions of package value answer (layer 1): has of the three spans, allIn, isText, Is, Same, Zero, Name: each for every argument, in whatever world; nothing that lay is turned.
  What the two iterators over a row of texts give, and what Rise answers: for every row of texts (in memory that is there, the nil one too), in whatever world; nothing that lay is turned.
  What the two walks over names give (of types, of fields): for every row of them, in whatever world: each name in its turn, till it is told to stop; nothing that lay is turned.
  What Rise answers: for every row of texts, in whatever world: whether each is above the one ahead of it, byte by byte; nothing that lay is turned.
  What allNames answers of a walk over names: whether each is a name; for every walk, in whatever world; nothing that lay is turned.
  What place answers of a walk over names and a name: where it stands first, -1 if nowhere; for every walk, in whatever world; nothing that lay is turned.
  What slices.Collect makes of a walk over names: a new row that owns them, in their order; for every walk, in whatever world; nothing that lay is turned.
  What slices.Collect, slices.Sort and slices.Sorted make of a walk over names: a new row of them; in their order, and sorted byte by byte; for every walk, in whatever world; nothing that lay is turned. The library's sort by its contract, laid at this program.
  What hasBadKind and slices.ContainsFunc over it answer of fields: for every row of them, in whatever world; nothing that lay is turned.
  What hasBadFields answers of a type: for every type, in whatever world; nothing that lay is turned.
  What schema's Is answers: for every schema, in whatever world; nothing that lay is turned.
  Rows of texts, as lists: that a row rises says that each is below all behind it; that a sorted row rises says that none stands twice; where a name of such a row stands.
-/
import Derived.Test.YtcjpaldijngnpaaGreatDoorRows
import Derived.WalkKit
import Derived.WalkSpells
import Derived.WalkLawsBesides
import Derived.Deep.RegionWith
import Derived.Deep.QuietTactic
import Derived.BigQuiet
import Derived.RangeFuncBox
import Derived.RangeFuncNested
import Derived.RangeFuncBound
import Derived.RangeFuncCalls
import Derived.RangeFuncLeaves
import Derived.Shelf.Abstract
import Derived.Shelf.RegionOpen
import Derived.OwnWalkIn
import Derived.TacticsInMore
import Derived.LoopNIn
import Derived.LoopIn
import Derived.Maps.AppendAt
import Derived.Maps.OwnIn
import Derived.Shelf.Sort.Plain
import Derived.Shelf.Slices.In.SortNone
import Derived.Sort.OwnSorted
import Derived.Sort.Walk0
namespace Go.Proofs.YtcjpaldijngnpaaGreatDoor.Sc
open Go.RowKit

theorem hide {p : Prop} (h : p) : Hid p := h
theorem unhide {p : Prop} (h : Hid p) : p := h
theorem bcell {W w1 : World} (hb : Below W.heap.size W w1) : (∀ b o, b < W.heap.size → w1.cell? ⟨b, o, none⟩ = W.cell? ⟨b, o, none⟩) ∧ (∀ b o, b < W.heap.size → w1.frozen? ⟨b, o, none⟩ = W.frozen? ⟨b, o, none⟩) :=
  ⟨fun b o h => hb.cell (p := ⟨b, o, none⟩) h, fun b o h => hb.frozen (p := ⟨b, o, none⟩) h⟩

/-- low to high, both in it. -/
def inB (lo hi x : Int) : Bool := decide (lo ≤ x) && decide (x ≤ hi)

set_option maxHeartbeats 400000 in
theorem has42 (lo hi x : Int) (w : World) :
    Calls Tryz.prog 115 #[.agg #[.int .i64 lo, .int .i64 hi], .int .i64 x] w fun e w' => e = .returned (.bool (inB lo hi x)) ∧ Below w.heap.size w w' := by
  go_enter Tryz.func115, Tryz.ntmps115
  go_wp2
  all_goals (go_ret; refine ⟨?_, (Below.refl _ _).alloc (Nat.le_refl _) _⟩; simp_all [inB]; try omega)

set_option maxHeartbeats 400000 in
theorem has31 (lo hi x : Int) (w : World) :
    Calls Tryz.prog 100 #[.agg #[.int .i64 lo, .int .i64 hi], .int .i64 x] w fun e w' => e = .returned (.bool (inB lo hi x)) ∧ Below w.heap.size w w' := by
  go_enter Tryz.func100, Tryz.ntmps100
  go_wp2
  all_goals (go_ret; refine ⟨?_, (Below.refl _ _).alloc (Nat.le_refl _) _⟩; simp_all [inB]; try omega)

set_option maxHeartbeats 400000 in
theorem has38 (lo hi x : Int) (w : World) :
    Calls Tryz.prog 111 #[.agg #[.int .u8 lo, .int .u8 hi], .int .u8 x] w fun e w' => e = .returned (.bool (inB lo hi x)) ∧ Below w.heap.size w w' := by
  go_enter Tryz.func111, Tryz.ntmps111
  go_wp2
  all_goals (go_ret; refine ⟨?_, (Below.refl _ _).alloc (Nat.le_refl _) _⟩; simp_all [inB]; try omega)

/-- All bytes from lo to hi. -/
def allB (lo hi : Int) (l : List UInt8) : Bool := l.all fun c => inB lo hi c.toNat

theorem take_snoc (s : ByteArray) (k : Nat) (h : k < s.size) : s.data.toList.take (k + 1) = s.data.toList.take k ++ [s[k]] := by
  rw [List.take_succ_eq_append_getElem (by simpa using h)]; rfl
theorem allB_snoc (lo hi : Int) (l : List UInt8) (c : UInt8) : allB lo hi (l ++ [c]) = (allB lo hi l && inB lo hi c.toNat) := by simp [allB]
theorem allB_no (lo hi : Int) (s : ByteArray) (k : Nat) (h : k < s.size) (hn : inB lo hi s[k].toNat = false) : allB lo hi s.data.toList = false := by
  simp only [allB, List.all_eq_false]
  exact ⟨s[k], by simp [ByteArray.getElem_eq_getElem_data], by simp [hn]⟩

set_option maxHeartbeats 400000 in
theorem allIn32 (lo hi : Int) (s : ByteArray) (w : World) (hs : s.size ≤ maxLen) :
    Calls Tryz.prog 101 #[.string s, .agg #[.int .u8 lo, .int .u8 hi]] w fun e w' => e = .returned (.bool (allB lo hi s.data.toList)) ∧ Below w.heap.size w w' := by
  unfold maxLen at hs
  go_enter Tryz.func101, Tryz.ntmps101
  go_wp2
  go_loopw [8] (fun i wr => ∃ k : Nat, k ≤ s.size ∧ i = .int .i64 k ∧ allB lo hi (s.data.toList.take k) = true ∧ Below (w.heap.size + 1) (w.alloc (.cells #[.int .u8 lo, .int .u8 hi] 184)) wr) (fun i _ => s.size - (intOf i).toNat)
  case atStart => exact ⟨0, Nat.zero_le _, rfl, rfl, Below.refl _ _⟩
  case round =>
    obtain ⟨k, hk, rfl, hall, hb⟩ := hrel
    have H := hide hall
    clear hall
    have hc : wr.cell? ⟨w.heap.size, 0, none⟩ = some (.int .u8 lo) := (hb.cell (p := ⟨w.heap.size, 0, none⟩) (by simp)).trans (by simp)
    have hc1 : wr.cell? ⟨w.heap.size, 1, none⟩ = some (.int .u8 hi) := (hb.cell (p := ⟨w.heap.size, 1, none⟩) (by simp)).trans (by simp)
    by_cases hlt : k < s.size
    · cases hin : inB lo hi s[k].toNat
      all_goals have Hin := hide hin
      all_goals clear hin
      · go_wp2
        go_region_with (go_at_call 111; refine (has38 lo hi _ _).mono ?_; rintro e w2 ⟨rfl, hb2⟩; rw [unhide Hin])
        all_goals go_wp2
        all_goals go_ret
        all_goals exact ⟨by rw [allB_no lo hi s k hlt (unhide Hin)]; rfl, ((Below.refl _ _).alloc (Nat.le_refl _) _).trans ((hb.drew.mono (by omega)).trans (hb2.mono (by have := hb.size; simp at this ⊢; omega)))⟩
      · have Hs := hide (show allB lo hi (s.data.toList.take (k + 1)) = true by rw [take_snoc s k hlt, allB_snoc, unhide H, unhide Hin]; rfl)
        go_wp2
        go_region_with (go_at_call 111; refine (has38 lo hi _ _).mono ?_; rintro e w2 ⟨rfl, hb2⟩; rw [unhide Hin])
        all_goals go_wp2
        all_goals
          go_roundw
          case rel => exact ⟨k + 1, by omega, by go_num, unhide Hs, hb.drew.trans (hb2.mono (by have := hb.size; simp at this ⊢; omega))⟩
          case measure => simp [intOf]; omega
    · go_wp2
      go_ret
      have e : allB lo hi s.data.toList = true := by
        have := unhide H
        rwa [List.take_of_length_le (by simp; omega)] at this
      exact ⟨by rw [e]; rfl, ((Below.refl _ _).alloc (Nat.le_refl _) _).trans (hb.mono (by omega))⟩

def isTextB (s : ByteArray) : Bool := decide (s.size ≤ 16) && allB 32 126 s.data.toList

set_option maxHeartbeats 400000 in
theorem isText41 (s : ByteArray) (w : World) (hs : s.size ≤ maxLen) :
    Calls Tryz.prog 114 #[.string s] w fun e w' => e = .returned (.bool (isTextB s)) ∧ Below w.heap.size w w' := by
  by_cases h : s.size ≤ 16
  · have H := hide (show isTextB s = allB 32 126 s.data.toList by simp [isTextB, h])
    go_enter Tryz.func114, Tryz.ntmps114
    go_wp2_with (go_at_call 101; refine (allIn32 _ _ _ _ hs).mono ?_; rintro e w2 ⟨rfl, hb2⟩)
    go_ret
    exact ⟨by rw [unhide H]; rfl, hb2⟩
  · have H := hide (show isTextB s = false by simp [isTextB, h])
    go_enter Tryz.func114, Tryz.ntmps114
    go_wp2
    go_ret
    exact ⟨by rw [unhide H]; rfl, Below.refl _ _⟩

def nameB (s : ByteArray) : Bool := (decide (1 ≤ s.size) && decide (s.size ≤ 8)) && allB 97 122 s.data.toList

set_option maxHeartbeats 400000 in
theorem name21 (s : ByteArray) (w : World) (hs : s.size ≤ maxLen) :
    Calls Tryz.prog 77 #[.string s] w fun e w' => e = .returned (.bool (nameB s)) ∧ Below w.heap.size w w' := by
  cases h : inB 1 8 s.size
  · have H := hide (show nameB s = false by simp [inB] at h; simp [nameB]; omega)
    go_enter Tryz.func77, Tryz.ntmps77
    go_wp2_with (go_at_call 100; refine (has31 _ _ _ _).mono ?_; rintro e w2 ⟨rfl, hb2⟩; rw [h])
    go_ret
    exact ⟨by rw [unhide H]; rfl, hb2⟩
  · have H := hide (show nameB s = allB 97 122 s.data.toList by simp [inB] at h; simp [nameB]; omega)
    go_enter Tryz.func77, Tryz.ntmps77
    go_wp2_with (first | (go_at_call 100; refine (has31 _ _ _ _).mono ?_; rintro e w2 ⟨rfl, hb2⟩; rw [h]) | (go_at_call 101; refine (allIn32 _ _ _ _ hs).mono ?_; rintro e w3 ⟨rfl, hb3⟩))
    go_ret
    exact ⟨by rw [unhide H]; rfl, hb2.trans (hb3.mono hb2.size)⟩

/-- The kind of the zero value of a kind. -/
def zeroK (k : Int) : Int := if k = 1 ∨ k = 2 ∨ k = 3 then k else 0

set_option maxHeartbeats 400000 in
theorem zero37 (k : Int) (w : World) :
    Calls Tryz.prog 107 #[.int .i64 k] w fun e w' => e = .returned (.agg #[.int .i64 (zeroK k), .int .i64 0, .string ⟨#[]⟩]) ∧ Below w.heap.size w w' := by
  by_cases h : k = 1 ∨ k = 2 ∨ k = 3
  · have hz : zeroK k = k := by simp [zeroK, h]
    rw [hz]
    clear hz
    rcases h with rfl | rfl | rfl
    all_goals
      go_enter Tryz.func107, Tryz.ntmps107
      go_wp2
      refine bodyPost_ret (v := .agg #[.int .i64 _, .int .i64 0, .string ⟨#[]⟩]) (by simp [results, Tryz.results107, go_sem]) rfl ⟨rfl, (Below.refl _ _).alloc (Nat.le_refl _) _⟩
  · have hz : zeroK k = 0 := by simp [zeroK, h]
    rw [hz]
    clear hz
    have h1 : (k == 1) = false := by simp; omega
    have h2 : (k == 2) = false := by simp; omega
    have h3 : (k == 3) = false := by simp; omega
    clear h
    go_enter Tryz.func107, Tryz.ntmps107
    go_wp2
    refine bodyPost_ret (v := .agg #[.int .i64 0, .int .i64 0, .string ⟨#[]⟩]) (by simp [results, Tryz.results107, go_sem]) rfl ⟨rfl, (Below.refl _ _).alloc (Nat.le_refl _) _⟩

/-- What may be a value. -/
def isB (k n : Int) (s : ByteArray) : Bool :=
  if k = 1 then s.toList.isEmpty else if k = 2 then decide (n = 0) && isTextB s else if k = 3 then inB 0 1 n && s.toList.isEmpty else false

set_option maxHeartbeats 400000 in
theorem is36 (k n : Int) (s : ByteArray) (w : World) (hs : s.size ≤ maxLen) :
    Calls Tryz.prog 106 #[.agg #[.int .i64 k, .int .i64 n, .string s]] w fun e w' => e = .returned (.bool (isB k n s)) ∧ Below w.heap.size w w' := by
  by_cases h1 : k = 1
  · subst h1
    have H := hide (show isB 1 n s = s.toList.isEmpty by simp [isB])
    go_enter Tryz.func106, Tryz.ntmps106
    go_wp2
    go_ret
    exact ⟨by rw [unhide H]; rfl, (Below.refl _ _).alloc (Nat.le_refl _) _⟩
  by_cases h2 : k = 2
  · subst h2
    by_cases hn : n = 0
    · subst hn
      have H := hide (show isB 2 0 s = isTextB s by simp [isB])
      go_enter Tryz.func106, Tryz.ntmps106
      go_wp2_with (go_at_call 114; refine (isText41 _ _ hs).mono ?_; rintro e w2 ⟨rfl, hb2⟩)
      go_ret
      exact ⟨by rw [unhide H]; rfl, ((Below.refl _ _).alloc (Nat.le_refl _) _).trans (hb2.mono (by simp))⟩
    · have H := hide (show isB 2 n s = false by simp [isB, hn])
      have hn' : (n == 0) = false := by simp [hn]
      clear hn h1
      go_enter Tryz.func106, Tryz.ntmps106
      go_wp2
      go_ret
      exact ⟨by rw [unhide H]; rfl, (Below.refl _ _).alloc (Nat.le_refl _) _⟩
  by_cases h3 : k = 3
  · subst h3
    cases hn : inB 0 1 n
    · have H := hide (show isB 3 n s = false by simp [isB, hn])
      clear h1 h2
      go_enter Tryz.func106, Tryz.ntmps106
      go_wp2_with (go_at_call 115; refine (has42 _ _ _ _).mono ?_; rintro e w2 ⟨rfl, hb2⟩; rw [hn])
      go_ret
      exact ⟨by rw [unhide H]; rfl, ((Below.refl _ _).alloc (Nat.le_refl _) _).trans (hb2.mono (by simp))⟩
    · have H := hide (show isB 3 n s = s.toList.isEmpty by simp [isB, hn])
      clear h1 h2
      go_enter Tryz.func106, Tryz.ntmps106
      go_wp2_with (go_at_call 115; refine (has42 _ _ _ _).mono ?_; rintro e w2 ⟨rfl, hb2⟩; rw [hn]; have hc2 : w2.cell? ⟨w.heap.size, 2, none⟩ = some (.string s) := (hb2.cell (p := ⟨w.heap.size, 2, none⟩) (by simp)).trans (by simp))
      go_ret
      exact ⟨by rw [unhide H]; rfl, ((Below.refl _ _).alloc (Nat.le_refl _) _).trans (hb2.mono (by simp))⟩
  · have H := hide (show isB k n s = false by simp [isB, h1, h2, h3])
    have h1' : (k == 1) = false := by simp [h1]
    have h2' : (k == 2) = false := by simp [h2]
    have h3' : (k == 3) = false := by simp [h3]
    clear h1 h2 h3
    go_enter Tryz.func106, Tryz.ntmps106
    go_wp2
    go_ret
    exact ⟨by rw [unhide H]; rfl, (Below.refl _ _).alloc (Nat.le_refl _) _⟩

end Go.Proofs.YtcjpaldijngnpaaGreatDoor.Sc

namespace Go.Proofs.YtcjpaldijngnpaaGreatDoor.Sc
open Go.RowKit Go.Shelf

attribute [local go_sem] Oper.semAt_some

/-- What has come when k rounds are over: f 0, .., f (k - 1). -/
def upto {α : Type} (f : Nat → α) (k : Nat) : List α := (List.range k).map f
theorem upto_succ {α : Type} (f : Nat → α) (k : Nat) : upto f (k + 1) = upto f k ++ [f k] := by simp [upto, List.range_succ]
theorem upto_length {α : Type} (f : Nat → α) (k : Nat) : (upto f k).length = k := by simp [upto]

/-- The slice value sv holds the texts ss, in a block below n₀; or it is nil or empty and there are none. -/
def Strs (n₀ : Nat) (W : World) (sv : Value) (ss : List ByteArray) : Prop :=
  (∃ a cap, sv = .slice a 0 cap ∧ ss = []) ∨ ∃ b off cap, sv = .slice (some ⟨b, off, none⟩) ss.length cap ∧ b < n₀ ∧ ∀ j, j < ss.length → W.cell? ⟨b, off + j, none⟩ = some (.string (ss[j]?.getD ByteArray.empty))
theorem Strs.below {n₀ : Nat} {A B : World} (h : Below n₀ A B) {sv : Value} {ss : List ByteArray} : Strs n₀ A sv ss → Strs n₀ B sv ss
  | .inl e => .inl e
  | .inr ⟨b, off, cap, e, hb, hc⟩ => .inr ⟨b, off, cap, e, hb, fun j hj => (h.cell (p := ⟨b, off + j, none⟩) hb).trans (hc j hj)⟩
theorem Strs.mono {n₀ n₁ : Nat} (h : n₀ ≤ n₁) {A : World} {sv : Value} {ss : List ByteArray} : Strs n₀ A sv ss → Strs n₁ A sv ss
  | .inl e => .inl e
  | .inr ⟨b, off, cap, e, hb, hc⟩ => .inr ⟨b, off, cap, e, Nat.lt_of_lt_of_le hb h, hc⟩

set_option maxRecDepth 100000 in
set_option maxHeartbeats 2000000 in
theorem pairs1_in (n : Nat) (hn : 1 ≤ n) (l Bs n₀ b off len cap : Nat) (ss : List ByteArray) (hreach : len * 16 ≤ 140737488351232) (hb : b < n₀) (hBn : Bs < n₀) (J Jx : List (ByteArray × ByteArray) → World → Prop)
    (hdr : ∀ pre W, J pre W → J pre W.drew)
    (hY : ∀ pre x W, J pre W → pre.length < len - 1 → YieldAt Fence.wide (n - 1) Tryz.prog l #[.string x.1, .string x.2] W fun e W' =>
      (e = .returned (.bool true) ∧ J (pre ++ [x]) W' ∧ Below n₀ W W') ∨ (e = .returned (.bool false) ∧ Jx (pre ++ [x]) W'))
    (W : World) (hBs : W.cell? ⟨Bs, 0, none⟩ = some (.slice (some ⟨b, off, none⟩) len cap)) (hc : ∀ j, j < len → W.cell? ⟨b, off + j, none⟩ = some (.string (ss[j]?.getD ByteArray.empty))) (h0 : J [] W) :
    CallsIn Fence.wide n Tryz.prog 102 #[.func (.yield l) #[] #[], .pointer (some ⟨Bs, 0, none⟩)] W fun e W' => (∃ v, e = .returned v) ∧
      ((∃ ys, ys = upto (fun j => (ss[j]?.getD ByteArray.empty, ss[j + 1]?.getD ByteArray.empty)) (len - 1) ∧ J ys W') ∨ (∃ pre, (∃ k, k ≤ len - 1 ∧ pre = upto (fun j => (ss[j]?.getD ByteArray.empty, ss[j + 1]?.getD ByteArray.empty)) k) ∧ Jx pre W')) := by
  refine callsIn_of_wp Tryz.func102 rfl trivial ?_ rfl
  simp only [Tryz.ntmps102, List.size_toArray, List.length_cons, List.length_nil, Nat.reduceAdd, Nat.reduceSub, Array.replicate_succ, Array.replicate_zero, List.push_toArray, List.append_toArray, List.nil_append, List.cons_append]
  gi_wp2
  gi_loopw [3] (fun i wr => ∃ k : Nat, k ≤ len - 1 ∧ i = .int .i64 (k + 1) ∧ J (upto (fun j => (ss[j]?.getD ByteArray.empty, ss[j + 1]?.getD ByteArray.empty)) k) wr ∧ Below n₀ W wr)
    (fun i _ => len - (intOf i).toNat)
  case atStart => exact ⟨0, Nat.zero_le _, rfl, h0, Below.refl _ _⟩
  case round =>
    obtain ⟨k, hk, rfl, hJs, hnx⟩ := hrel
    have hbs : wr.cell? ⟨Bs, 0, none⟩ = some (.slice (some ⟨b, off, none⟩) len cap) := (hnx.cell (p := ⟨Bs, 0, none⟩) hBn).trans hBs
    by_cases hlt : k + 1 < len
    · have hc1 : wr.cell? ⟨b, off + k, none⟩ = some (.string (ss[k]?.getD ByteArray.empty)) := (hnx.cell (p := ⟨b, off + k, none⟩) hb).trans (hc k (by omega))
      have hc2 : wr.cell? ⟨b, off + (k + 1), none⟩ = some (.string (ss[k + 1]?.getD ByteArray.empty)) := (hnx.cell (p := ⟨b, off + (k + 1), none⟩) hb).trans (hc (k + 1) hlt)
      have hmx : Tryz.prog.follows .mixedOrders = true := by kernel_rfl
      obtain ⟨fn, tmps, assign, body, hy, hR⟩ := (hY _ (ss[k]?.getD ByteArray.empty, ss[k + 1]?.getD ByteArray.empty) wr.drew (hdr _ _ hJs) (by rw [upto_length]; omega)).mono
        (R' := fun e W' => ∃ bb : Bool, e = .returned (.bool bb) ∧ Hid ((bb = true ∧ J (upto (fun j => (ss[j]?.getD ByteArray.empty, ss[j + 1]?.getD ByteArray.empty)) k ++ [(ss[k]?.getD ByteArray.empty, ss[k + 1]?.getD ByteArray.empty)]) W' ∧ Below n₀ wr.drew W') ∨ (bb = false ∧ Jx (upto (fun j => (ss[j]?.getD ByteArray.empty, ss[j + 1]?.getD ByteArray.empty)) k ++ [(ss[k]?.getD ByteArray.empty, ss[k + 1]?.getD ByteArray.empty)]) W')))
        (fun e W' h => by
          rcases h with ⟨rfl, h⟩ | ⟨rfl, h⟩
          · exact ⟨true, rfl, .inl ⟨rfl, h⟩⟩
          · exact ⟨false, rfl, .inr ⟨rfl, h⟩⟩)
      dsimp only at hy
      have hk1 : (k : Int) + 1 < len := by omega
      have hk2 : (0 : Int) ≤ k := by omega
      have hk3 : (k : Int) < len := by omega
      have hw1 : IntKind.i64.wrap (k : Int) = k := by rw [IntKind.wrap_i64]; omega
      gi_wp2
      gi_region_with_o (refine hR.mono ?_; rintro e W3 ⟨bb, rfl, hbb⟩)
      all_goals
        rcases unhide hbb with ⟨rfl, hJ3, hk3⟩ | ⟨rfl, hJx3⟩
        · clear hbb hR hy
          gi_wp2
          go_roundw
          case rel => exact ⟨k + 1, by omega, by go_num, by rw [upto_succ]; exact hJ3, hnx.drew.trans hk3⟩
          case measure => simp [intOf]; omega
        · clear hbb hR hy
          gi_wp2
          refine bodyPost_ret (results_none rfl _ _ _) rfl ?_
          exact ⟨⟨_, rfl⟩, .inr ⟨_, ⟨k + 1, by omega, (upto_succ _ _).symm⟩, hJx3⟩⟩
    · have hke : k = len - 1 := by omega
      have hk1 : ¬ (k : Int) + 1 < len := by omega
      have H := hide hke
      clear hke
      gi_wp2
      go_end0
      exact ⟨⟨_, rfl⟩, .inl (by rw [← unhide H]; exact hJs)⟩

set_option maxRecDepth 100000 in
set_option maxHeartbeats 1000000 in
theorem pairs1_nil_in (n : Nat) (l Bs : Nat) (a : Option Addr) (cap : Nat) (J : List (ByteArray × ByteArray) → World → Prop) (W : World) (hBs : W.cell? ⟨Bs, 0, none⟩ = some (.slice a 0 cap)) (h0 : J [] W) :
    CallsIn Fence.wide n Tryz.prog 102 #[.func (.yield l) #[] #[], .pointer (some ⟨Bs, 0, none⟩)] W fun e W' => (∃ v, e = .returned v) ∧ J [] W' := by
  refine callsIn_of_wp Tryz.func102 rfl trivial ?_ rfl
  simp only [Tryz.ntmps102, List.size_toArray, List.length_cons, List.length_nil, Nat.reduceAdd, Nat.reduceSub, Array.replicate_succ, Array.replicate_zero, List.push_toArray, List.append_toArray, List.nil_append, List.cons_append]
  gi_wp2
  gi_loopw [3] (fun i wr => i = .int .i64 1 ∧ J [] wr ∧ wr.cell? ⟨Bs, 0, none⟩ = some (.slice a 0 cap)) (fun _ _ => 0)
  case atStart => exact ⟨rfl, h0, hBs⟩
  case round =>
    obtain ⟨rfl, hJs, hcs⟩ := hrel
    gi_wp2
    go_end0
    exact ⟨⟨_, rfl⟩, hJs⟩

set_option maxHeartbeats 1000000 in
theorem pairs_in (n : Nat) (a : Option Addr) (len cap : Nat) (w : World) :
    CallsIn Fence.wide n Tryz.prog 79 #[.slice a len cap] w fun e w' => e = .returned (.func (.func 102) #[] #[.pointer (some ⟨w.heap.size, 0, none⟩)]) ∧ w' = w.alloc (.cells #[.slice a len cap] 156) := by
  refine callsIn_of_wp Tryz.func79 rfl trivial ?_ rfl
  simp only [Tryz.ntmps79, List.size_toArray, List.length_cons, List.length_nil, Nat.reduceAdd, Nat.reduceSub, Array.replicate_succ, Array.replicate_zero, List.push_toArray, List.append_toArray, List.nil_append, List.cons_append]
  gi_wp2
  go_ret
  exact ⟨rfl, rfl⟩

/-- The pairs of neighbours, the first k of them. -/
def pairsTo (ss : List ByteArray) (k : Nat) : List (ByteArray × ByteArray) := upto (fun j => (ss[j]?.getD ByteArray.empty, ss[j + 1]?.getD ByteArray.empty)) k

theorem drew_of_abides {α : Type} {B : Nat} {J : List α → World → Prop} (h : AbidesFrom B J) (pre : List α) (W : World) (hj : J pre W) : J pre W.drew :=
  h pre W W.drew none hj ⟨rfl, rfl, rfl, Nat.le_refl _, fun _ _ _ => rfl⟩ (fun r e => by cases e)

theorem pairs_stops (n : Nat) (hn : 1 ≤ n) (Bs n₀ : Nat) (sv : Value) (ss : List ByteArray) (hreach : ss.length * 16 ≤ 140737488351232) (w : World) (hBs : Bs < n₀) (hn₀ : n₀ ≤ w.heap.size)
    (hc : w.cell? ⟨Bs, 0, none⟩ = some sv) (hI : Strs n₀ w sv ss) :
    SeqStopsK Fence.wide n Tryz.prog 102 #[.pointer (some ⟨Bs, 0, none⟩)] (fun x : ByteArray × ByteArray => #[Value.string x.1, Value.string x.2]) (Below n₀) (fun ys => ys = pairsTo ss (ss.length - 1))
      (fun pre => ∃ k, k ≤ ss.length - 1 ∧ pre = pairsTo ss k) (ss.length - 1) w := fun l J Jx W hW hJ _ hY h0 => by
  have hc' := (hW.cell (p := ⟨Bs, 0, none⟩) (Nat.lt_of_lt_of_le hBs hn₀)).trans hc
  rcases hI.below (hW.mono hn₀) with ⟨a, cap, rfl, rfl⟩ | ⟨b, off, cap, rfl, hb, hcs⟩
  · exact (pairs1_nil_in n l Bs a cap J W hc' h0).mono fun e W' ⟨he, hj⟩ => ⟨he, .inl ⟨_, rfl, hj⟩⟩
  · exact pairs1_in n hn l Bs n₀ b off ss.length cap ss hreach hb hBs J Jx (drew_of_abides hJ) hY W hc' hcs h0

end Go.Proofs.YtcjpaldijngnpaaGreatDoor.Sc

namespace Go.Proofs.YtcjpaldijngnpaaGreatDoor.Sc
open Go.RowKit Go.Shelf

attribute [local go_sem] Oper.semAt_some

/-- A text as memory bears it. -/
abbrev Txt := { s : ByteArray // s.size ≤ maxLen }
instance : Inhabited Txt := ⟨⟨ByteArray.empty, by decide⟩⟩
abbrev tx (l : List Txt) (j : Nat) : ByteArray := (l[j]?.getD default).1

theorem abides_alloc {α : Type} {B : Nat} {J : List α → World → Prop} (h : AbidesFrom B J) (pre : List α) (W : World) (o : Obj) (hj : J pre W) : J pre (W.alloc o) :=
  h pre W _ none hj (World.grownBy_alloc W o none) (fun r e => by cases e)

set_option maxRecDepth 100000 in
set_option maxHeartbeats 2000000 in
theorem types1_in (n : Nat) (hn : 1 ≤ n) (l Bs n₀ b off cap : Nat) (ns : List Txt) (hreach : ns.length ≤ 5) (hb : b < n₀) (J Jx : List Txt → World → Prop)
    (hal : ∀ pre W o, J pre W → J pre (W.alloc o))
    (hY : ∀ pre x W, J pre W → pre.length < ns.length → YieldAt Fence.wide (n - 1) Tryz.prog l #[.string x.1] W fun e W' =>
      (e = .returned (.bool true) ∧ J (pre ++ [x]) W' ∧ Below n₀ W W') ∨ (e = .returned (.bool false) ∧ Jx (pre ++ [x]) W'))
    (W : World) (hn₀ : n₀ ≤ W.heap.size) (hBs : W.cell? ⟨Bs, 0, none⟩ = some (.slice (some ⟨b, off, none⟩) ns.length cap))
    (hc : ∀ j, j < ns.length → W.cell? ⟨b, off + j * 2, none⟩ = some (.string (tx ns j)) ∧ ∃ a' l' c', W.cell? ⟨b, off + j * 2 + 1, none⟩ = some (.slice a' l' c')) (h0 : J [] W) :
    CallsIn Fence.wide n Tryz.prog 78 #[.func (.yield l) #[] #[], .pointer (some ⟨Bs, 0, none⟩)] W fun e W' => (∃ v, e = .returned v) ∧
      (J ns W' ∨ (∃ k, k ≤ ns.length ∧ Jx (ns.take k) W')) := by
  refine callsIn_of_wp Tryz.func78 rfl trivial ?_ rfl
  simp only [Tryz.ntmps78, List.size_toArray, List.length_cons, List.length_nil, Nat.reduceAdd, Nat.reduceSub, Array.replicate_succ, Array.replicate_zero, List.push_toArray, List.append_toArray, List.nil_append, List.cons_append]
  gi_wp2
  gi_loopw [7] (fun i wr => ∃ k : Nat, k ≤ ns.length ∧ i = .int .i64 k ∧ J (ns.take k) wr ∧ Below n₀ W wr)
    (fun i _ => ns.length - (intOf i).toNat)
  case atStart => exact ⟨0, Nat.zero_le _, rfl, h0, Below.refl _ _⟩
  case round =>
    obtain ⟨k, hk, rfl, hJs, hnx⟩ := hrel
    by_cases hlt : k < ns.length
    · obtain ⟨hc1', a', l', c', hc2'⟩ := hc k hlt
      have hc1 : wr.cell? ⟨b, off + k * 2, none⟩ = some (.string (tx ns k)) := (hnx.cell (p := ⟨b, off + k * 2, none⟩) hb).trans hc1'
      have hc2 : wr.cell? ⟨b, off + k * 2 + 1, none⟩ = some (.slice a' l' c') := (hnx.cell (p := ⟨b, off + k * 2 + 1, none⟩) hb).trans hc2'
      clear hc1' hc2'
      have hlen : (ns.take k).length < ns.length := by simp; omega
      have hsucc := hide (show ns.take k ++ [ns[k]?.getD default] = ns.take (k + 1) by rw [List.take_succ_eq_append_getElem hlt]; simp [hlt])
      obtain ⟨fn, tmps, assign, body, hy, hR⟩ := (hY _ (ns[k]?.getD default) (wr.alloc (.cells #[.string (tx ns k), .slice a' l' c'] 69)) (hal _ _ _ hJs) hlen).mono
        (R' := fun e W' => ∃ bb : Bool, e = .returned (.bool bb) ∧ Hid ((bb = true ∧ J (ns.take k ++ [ns[k]?.getD default]) W' ∧ Below n₀ (wr.alloc (.cells #[.string (tx ns k), .slice a' l' c'] 69)) W') ∨ (bb = false ∧ Jx (ns.take k ++ [ns[k]?.getD default]) W')))
        (fun e W' h => by
          rcases h with ⟨rfl, h⟩ | ⟨rfl, h⟩
          · exact ⟨true, rfl, .inl ⟨rfl, h⟩⟩
          · exact ⟨false, rfl, .inr ⟨rfl, h⟩⟩)
      gi_wp2
      refine hR.mono ?_
      rintro e W3 ⟨bb, rfl, hbb⟩
      rcases unhide hbb with ⟨rfl, hJ3, hk3⟩ | ⟨rfl, hJx3⟩
      · clear hbb hR hy
        gi_wp2
        go_roundw
        case rel => exact ⟨k + 1, by omega, by go_num, by rw [← unhide hsucc]; exact hJ3, (hnx.alloc (Nat.le_trans hn₀ hnx.size) _).trans hk3⟩
        case measure => simp [intOf]; omega
      · clear hbb hR hy
        gi_wp2
        refine bodyPost_ret (results_none rfl _ _ _) rfl ?_
        exact ⟨⟨_, rfl⟩, .inr ⟨k + 1, by omega, by rw [← unhide hsucc]; exact hJx3⟩⟩
    · have hke : k = ns.length := by omega
      have H := hide (show ns.take k = ns by rw [hke]; simp)
      clear hke
      gi_wp2
      go_end0
      exact ⟨⟨_, rfl⟩, .inl (by rw [← unhide H]; exact hJs)⟩

set_option maxRecDepth 100000 in
set_option maxHeartbeats 1000000 in
theorem types1_nil_in (n : Nat) (l Bs : Nat) (a : Option Addr) (cap : Nat) (J : List Txt → World → Prop) (W : World) (hBs : W.cell? ⟨Bs, 0, none⟩ = some (.slice a 0 cap)) (h0 : J [] W) :
    CallsIn Fence.wide n Tryz.prog 78 #[.func (.yield l) #[] #[], .pointer (some ⟨Bs, 0, none⟩)] W fun e W' => (∃ v, e = .returned v) ∧ J [] W' := by
  refine callsIn_of_wp Tryz.func78 rfl trivial ?_ rfl
  simp only [Tryz.ntmps78, List.size_toArray, List.length_cons, List.length_nil, Nat.reduceAdd, Nat.reduceSub, Array.replicate_succ, Array.replicate_zero, List.push_toArray, List.append_toArray, List.nil_append, List.cons_append]
  gi_wp2
  gi_loopw [7] (fun i wr => i = .int .i64 0 ∧ J [] wr) (fun _ _ => 0)
  case atStart => exact ⟨rfl, h0⟩
  case round =>
    obtain ⟨rfl, hJs⟩ := hrel
    gi_wp2
    go_end0
    exact ⟨⟨_, rfl⟩, hJs⟩

set_option maxHeartbeats 1000000 in
theorem types_in (n : Nat) (a : Option Addr) (len cap : Nat) (w : World) :
    CallsIn Fence.wide n Tryz.prog 52 #[.slice a len cap] w fun e w' => e = .returned (.func (.func 78) #[] #[.pointer (some ⟨w.heap.size, 0, none⟩)]) ∧ w' = w.alloc (.cells #[.slice a len cap] 22) := by
  refine callsIn_of_wp Tryz.func52 rfl trivial ?_ rfl
  simp only [Tryz.ntmps52, List.size_toArray, List.length_cons, List.length_nil, Nat.reduceAdd, Nat.reduceSub, Array.replicate_succ, Array.replicate_zero, List.push_toArray, List.append_toArray, List.nil_append, List.cons_append]
  gi_wp2
  go_ret
  exact ⟨rfl, rfl⟩

/-- The slice at a has these names (of types), below n₀. -/
def TNames (n₀ : Nat) (W : World) (a : Option Addr) (ns : List Txt) : Prop :=
  ns = [] ∨ ∃ b off, a = some ⟨b, off, none⟩ ∧ b < n₀ ∧ ∀ j, j < ns.length → W.cell? ⟨b, off + j * 2, none⟩ = some (.string (tx ns j)) ∧ ∃ a' l' c', W.cell? ⟨b, off + j * 2 + 1, none⟩ = some (.slice a' l' c')
theorem TNames.below {n₀ : Nat} {A B : World} (h : Below n₀ A B) {a : Option Addr} {ns : List Txt} : TNames n₀ A a ns → TNames n₀ B a ns
  | .inl e => .inl e
  | .inr ⟨b, off, e, hb, hc⟩ => .inr ⟨b, off, e, hb, fun j hj => by
      obtain ⟨h1, a', l', c', h2⟩ := hc j hj
      exact ⟨(h.cell (p := ⟨b, off + j * 2, none⟩) hb).trans h1, a', l', c', (h.cell (p := ⟨b, off + j * 2 + 1, none⟩) hb).trans h2⟩⟩

theorem types_stops (n : Nat) (hn : 1 ≤ n) (Bs n₀ : Nat) (a : Option Addr) (cap : Nat) (ns : List Txt) (hreach : ns.length ≤ 5) (w : World) (hBs : Bs < w.heap.size) (hn₀ : n₀ ≤ w.heap.size)
    (hc : w.cell? ⟨Bs, 0, none⟩ = some (.slice a ns.length cap)) (hI : TNames n₀ w a ns) :
    SeqStopsK Fence.wide n Tryz.prog 78 #[.pointer (some ⟨Bs, 0, none⟩)] (fun x : Txt => #[Value.string x.1]) (Below n₀) (fun ys => ys = ns)
      (fun pre => ∃ k, k ≤ ns.length ∧ pre = ns.take k) ns.length w := fun l J Jx W hW hJ _ hY h0 => by
  have hc' := (hW.cell (p := ⟨Bs, 0, none⟩) hBs).trans hc
  rcases hI.below (hW.mono hn₀) with rfl | ⟨b, off, rfl, hb, hcs⟩
  · exact (types1_nil_in n l Bs a cap J W hc' h0).mono fun e W' ⟨he, hj⟩ => ⟨he, .inl ⟨_, rfl, hj⟩⟩
  · refine (types1_in n hn l Bs n₀ b off cap ns hreach hb J Jx (fun pre W o => abides_alloc hJ pre W o) hY W (Nat.le_trans hn₀ hW.size) hc' hcs h0).mono ?_
    rintro e W' ⟨he, hj | ⟨k, hk, hj⟩⟩
    · exact ⟨he, .inl ⟨_, rfl, hj⟩⟩
    · exact ⟨he, .inr ⟨_, ⟨k, hk, rfl⟩, hj⟩⟩

set_option maxRecDepth 100000 in
set_option maxHeartbeats 2000000 in
theorem fields1_in (n : Nat) (hn : 1 ≤ n) (l Bs n₀ b off cap : Nat) (ns : List Txt) (hreach : ns.length ≤ 5) (hb : b < n₀) (J Jx : List Txt → World → Prop)
    (hal : ∀ pre W o, J pre W → J pre (W.alloc o))
    (hY : ∀ pre x W, J pre W → pre.length < ns.length → YieldAt Fence.wide (n - 1) Tryz.prog l #[.string x.1] W fun e W' =>
      (e = .returned (.bool true) ∧ J (pre ++ [x]) W' ∧ Below n₀ W W') ∨ (e = .returned (.bool false) ∧ Jx (pre ++ [x]) W'))
    (W : World) (hn₀ : n₀ ≤ W.heap.size) (hBs : W.cell? ⟨Bs, 0, none⟩ = some (.slice (some ⟨b, off, none⟩) ns.length cap))
    (hc : ∀ j, j < ns.length → W.cell? ⟨b, off + j * 2, none⟩ = some (.string (tx ns j)) ∧ ∃ v', W.cell? ⟨b, off + j * 2 + 1, none⟩ = some (.int .i64 v')) (h0 : J [] W) :
    CallsIn Fence.wide n Tryz.prog 103 #[.func (.yield l) #[] #[], .pointer (some ⟨Bs, 0, none⟩)] W fun e W' => (∃ v, e = .returned v) ∧
      (J ns W' ∨ (∃ k, k ≤ ns.length ∧ Jx (ns.take k) W')) := by
  refine callsIn_of_wp Tryz.func103 rfl trivial ?_ rfl
  simp only [Tryz.ntmps103, List.size_toArray, List.length_cons, List.length_nil, Nat.reduceAdd, Nat.reduceSub, Array.replicate_succ, Array.replicate_zero, List.push_toArray, List.append_toArray, List.nil_append, List.cons_append]
  gi_wp2
  gi_loopw [7] (fun i wr => ∃ k : Nat, k ≤ ns.length ∧ i = .int .i64 k ∧ J (ns.take k) wr ∧ Below n₀ W wr)
    (fun i _ => ns.length - (intOf i).toNat)
  case atStart => exact ⟨0, Nat.zero_le _, rfl, h0, Below.refl _ _⟩
  case round =>
    obtain ⟨k, hk, rfl, hJs, hnx⟩ := hrel
    by_cases hlt : k < ns.length
    · obtain ⟨hc1', v', hc2'⟩ := hc k hlt
      have hc1 : wr.cell? ⟨b, off + k * 2, none⟩ = some (.string (tx ns k)) := (hnx.cell (p := ⟨b, off + k * 2, none⟩) hb).trans hc1'
      have hc2 : wr.cell? ⟨b, off + k * 2 + 1, none⟩ = some (.int .i64 v') := (hnx.cell (p := ⟨b, off + k * 2 + 1, none⟩) hb).trans hc2'
      clear hc1' hc2'
      have hlen : (ns.take k).length < ns.length := by simp; omega
      have hsucc := hide (show ns.take k ++ [ns[k]?.getD default] = ns.take (k + 1) by rw [List.take_succ_eq_append_getElem hlt]; simp [hlt])
      obtain ⟨fn, tmps, assign, body, hy, hR⟩ := (hY _ (ns[k]?.getD default) (wr.alloc (.cells #[.string (tx ns k), .int .i64 v'] 66)) (hal _ _ _ hJs) hlen).mono
        (R' := fun e W' => ∃ bb : Bool, e = .returned (.bool bb) ∧ Hid ((bb = true ∧ J (ns.take k ++ [ns[k]?.getD default]) W' ∧ Below n₀ (wr.alloc (.cells #[.string (tx ns k), .int .i64 v'] 66)) W') ∨ (bb = false ∧ Jx (ns.take k ++ [ns[k]?.getD default]) W')))
        (fun e W' h => by
          rcases h with ⟨rfl, h⟩ | ⟨rfl, h⟩
          · exact ⟨true, rfl, .inl ⟨rfl, h⟩⟩
          · exact ⟨false, rfl, .inr ⟨rfl, h⟩⟩)
      gi_wp2
      refine hR.mono ?_
      rintro e W3 ⟨bb, rfl, hbb⟩
      rcases unhide hbb with ⟨rfl, hJ3, hk3⟩ | ⟨rfl, hJx3⟩
      · clear hbb hR hy
        gi_wp2
        go_roundw
        case rel => exact ⟨k + 1, by omega, by go_num, by rw [← unhide hsucc]; exact hJ3, (hnx.alloc (Nat.le_trans hn₀ hnx.size) _).trans hk3⟩
        case measure => simp [intOf]; omega
      · clear hbb hR hy
        gi_wp2
        refine bodyPost_ret (results_none rfl _ _ _) rfl ?_
        exact ⟨⟨_, rfl⟩, .inr ⟨k + 1, by omega, by rw [← unhide hsucc]; exact hJx3⟩⟩
    · have hke : k = ns.length := by omega
      have H := hide (show ns.take k = ns by rw [hke]; simp)
      clear hke
      gi_wp2
      go_end0
      exact ⟨⟨_, rfl⟩, .inl (by rw [← unhide H]; exact hJs)⟩

set_option maxRecDepth 100000 in
set_option maxHeartbeats 1000000 in
theorem fields1_nil_in (n : Nat) (l Bs : Nat) (a : Option Addr) (cap : Nat) (J : List Txt → World → Prop) (W : World) (hBs : W.cell? ⟨Bs, 0, none⟩ = some (.slice a 0 cap)) (h0 : J [] W) :
    CallsIn Fence.wide n Tryz.prog 103 #[.func (.yield l) #[] #[], .pointer (some ⟨Bs, 0, none⟩)] W fun e W' => (∃ v, e = .returned v) ∧ J [] W' := by
  refine callsIn_of_wp Tryz.func103 rfl trivial ?_ rfl
  simp only [Tryz.ntmps103, List.size_toArray, List.length_cons, List.length_nil, Nat.reduceAdd, Nat.reduceSub, Array.replicate_succ, Array.replicate_zero, List.push_toArray, List.append_toArray, List.nil_append, List.cons_append]
  gi_wp2
  gi_loopw [7] (fun i wr => i = .int .i64 0 ∧ J [] wr) (fun _ _ => 0)
  case atStart => exact ⟨rfl, h0⟩
  case round =>
    obtain ⟨rfl, hJs⟩ := hrel
    gi_wp2
    go_end0
    exact ⟨⟨_, rfl⟩, hJs⟩

set_option maxHeartbeats 1000000 in
theorem fields_in (n : Nat) (a : Option Addr) (len cap : Nat) (w : World) :
    CallsIn Fence.wide n Tryz.prog 82 #[.slice a len cap] w fun e w' => e = .returned (.func (.func 103) #[] #[.pointer (some ⟨w.heap.size, 0, none⟩)]) ∧ w' = w.alloc (.cells #[.slice a len cap] 67) := by
  refine callsIn_of_wp Tryz.func82 rfl trivial ?_ rfl
  simp only [Tryz.ntmps82, List.size_toArray, List.length_cons, List.length_nil, Nat.reduceAdd, Nat.reduceSub, Array.replicate_succ, Array.replicate_zero, List.push_toArray, List.append_toArray, List.nil_append, List.cons_append]
  gi_wp2
  go_ret
  exact ⟨rfl, rfl⟩

/-- The slice at a has these names (of fields), below n₀. -/
def FNames (n₀ : Nat) (W : World) (a : Option Addr) (ns : List Txt) : Prop :=
  ns = [] ∨ ∃ b off, a = some ⟨b, off, none⟩ ∧ b < n₀ ∧ ∀ j, j < ns.length → W.cell? ⟨b, off + j * 2, none⟩ = some (.string (tx ns j)) ∧ ∃ v', W.cell? ⟨b, off + j * 2 + 1, none⟩ = some (.int .i64 v')
theorem FNames.below {n₀ : Nat} {A B : World} (h : Below n₀ A B) {a : Option Addr} {ns : List Txt} : FNames n₀ A a ns → FNames n₀ B a ns
  | .inl e => .inl e
  | .inr ⟨b, off, e, hb, hc⟩ => .inr ⟨b, off, e, hb, fun j hj => by
      obtain ⟨h1, v', h2⟩ := hc j hj
      exact ⟨(h.cell (p := ⟨b, off + j * 2, none⟩) hb).trans h1, v', (h.cell (p := ⟨b, off + j * 2 + 1, none⟩) hb).trans h2⟩⟩

theorem fields_stops (n : Nat) (hn : 1 ≤ n) (Bs n₀ : Nat) (a : Option Addr) (cap : Nat) (ns : List Txt) (hreach : ns.length ≤ 5) (w : World) (hBs : Bs < w.heap.size) (hn₀ : n₀ ≤ w.heap.size)
    (hc : w.cell? ⟨Bs, 0, none⟩ = some (.slice a ns.length cap)) (hI : FNames n₀ w a ns) :
    SeqStopsK Fence.wide n Tryz.prog 103 #[.pointer (some ⟨Bs, 0, none⟩)] (fun x : Txt => #[Value.string x.1]) (Below n₀) (fun ys => ys = ns)
      (fun pre => ∃ k, k ≤ ns.length ∧ pre = ns.take k) ns.length w := fun l J Jx W hW hJ _ hY h0 => by
  have hc' := (hW.cell (p := ⟨Bs, 0, none⟩) hBs).trans hc
  rcases hI.below (hW.mono hn₀) with rfl | ⟨b, off, rfl, hb, hcs⟩
  · exact (fields1_nil_in n l Bs a cap J W hc' h0).mono fun e W' ⟨he, hj⟩ => ⟨he, .inl ⟨_, rfl, hj⟩⟩
  · refine (fields1_in n hn l Bs n₀ b off cap ns hreach hb J Jx (fun pre W o => abides_alloc hJ pre W o) hY W (Nat.le_trans hn₀ hW.size) hc' hcs h0).mono ?_
    rintro e W' ⟨he, hj | ⟨k, hk, hj⟩⟩
    · exact ⟨he, .inl ⟨_, rfl, hj⟩⟩
    · exact ⟨he, .inr ⟨_, ⟨k, hk, rfl⟩, hj⟩⟩

/-- The function value g over the box Bs gives these names, from w on. -/
def Gives (w : World) (g Bs : Nat) (ns : List Txt) : Prop :=
  (g = 78 ∨ g = 103) ∧ ns.length ≤ 5 ∧ ∀ n W, 1 ≤ n → Below w.heap.size w W → SeqStopsK Fence.wide n Tryz.prog g #[.pointer (some ⟨Bs, 0, none⟩)] (fun x : Txt => #[Value.string x.1]) (Below w.heap.size) (fun ys => ys = ns)
      (fun pre => ∃ k, k ≤ ns.length ∧ pre = ns.take k) ns.length W

theorem types_give (w : World) (a : Option Addr) (cap : Nat) (ns : List Txt) (hreach : ns.length ≤ 5) (hI : TNames w.heap.size w a ns) :
    Gives (w.alloc (.cells #[.slice a ns.length cap] 22)) 78 w.heap.size ns := by
  have bN := (Boxed.new w 22 (.slice a ns.length cap)).cell
  refine ⟨.inl rfl, hreach, fun n W hn hW => ?_⟩
  have hb : Below w.heap.size w W := ((Below.refl _ _).alloc (Nat.le_refl _) _).trans (hW.mono (by simp))
  have hs := hW.size
  rw [World.size_alloc] at hs
  refine types_stops n hn _ _ a cap ns hreach W (by omega) (by rw [World.size_alloc]; exact hs) ((hW.cell (p := ⟨w.heap.size, 0, none⟩) (by simp)).trans bN) ?_
  rcases hI.below hb with h | ⟨b, off, e, hb', hc⟩
  · exact .inl h
  · exact .inr ⟨b, off, e, by rw [World.size_alloc]; omega, hc⟩

theorem fields_give (w : World) (a : Option Addr) (cap : Nat) (ns : List Txt) (hreach : ns.length ≤ 5) (hI : FNames w.heap.size w a ns) :
    Gives (w.alloc (.cells #[.slice a ns.length cap] 67)) 103 w.heap.size ns := by
  have bN := (Boxed.new w 67 (.slice a ns.length cap)).cell
  refine ⟨.inr rfl, hreach, fun n W hn hW => ?_⟩
  have hb : Below w.heap.size w W := ((Below.refl _ _).alloc (Nat.le_refl _) _).trans (hW.mono (by simp))
  have hs := hW.size
  rw [World.size_alloc] at hs
  refine fields_stops n hn _ _ a cap ns hreach W (by omega) (by rw [World.size_alloc]; exact hs) ((hW.cell (p := ⟨w.heap.size, 0, none⟩) (by simp)).trans bN) ?_
  rcases hI.below hb with h | ⟨b, off, e, hb', hc⟩
  · exact .inl h
  · exact .inr ⟨b, off, e, by rw [World.size_alloc]; omega, hc⟩

end Go.Proofs.YtcjpaldijngnpaaGreatDoor.Sc

namespace Go.Proofs.YtcjpaldijngnpaaGreatDoor.Sc
open Go.RowKit Go.Shelf

attribute [local go_sem] Oper.semAt_some

/-- The first is below the second, byte by byte. -/
def lessP (p : ByteArray × ByteArray) : Bool := Op.bytesLess p.1.toList p.2.toList
/-- Each of these pairs rises. -/
def allP (l : List (ByteArray × ByteArray)) : Bool := l.all lessP
theorem allP_snoc (l : List (ByteArray × ByteArray)) (x : ByteArray × ByteArray) : allP (l ++ [x]) = (allP l && lessP x) := by simp [allP]
/-- A row rises: each is above the one ahead of it. -/
def riseB (ss : List ByteArray) : Bool := allP (pairsTo ss (ss.length - 1))
theorem rise_no (ss : List ByteArray) (k : Nat) (hk : k ≤ ss.length - 1) (h : allP (pairsTo ss k) = false) : riseB ss = false := by
  unfold riseB allP pairsTo upto at *
  simp only [List.all_eq_false, List.mem_map, List.mem_range] at *
  obtain ⟨x, ⟨j, hj, rfl⟩, hx⟩ := h
  exact ⟨_, ⟨j, by omega, rfl⟩, hx⟩

set_option maxRecDepth 100000 in
set_option maxHeartbeats 2000000 in
theorem rise_in (n : Nat) (hn : 3 ≤ n) (a : Option Addr) (len cap : Nat) (ss : List ByteArray) (hreach : ss.length * 16 ≤ 140737488351232) (w : World) (hI : Strs w.heap.size w (.slice a len cap) ss) :
    CallsIn Fence.wide n Tryz.prog 53 #[.slice a len cap] w fun e W' => e = .returned (.bool (riseB ss)) ∧ Below w.heap.size w W' := by
  have h1 : 1 ≤ n := by omega
  have hro : Fence.wide.round = none := rfl
  refine callsIn_of_wp_marks Tryz.func53 rfl trivial ?_ rfl
  simp only [Tryz.ntmps53, List.size_toArray, List.length_cons, List.length_nil, Nat.reduceAdd, Nat.reduceSub, Array.replicate_succ, Array.replicate_zero, List.push_toArray, List.append_toArray, List.nil_append, List.cons_append]
  gi_wp2_with (refine ⟨trivial, ?_⟩; gi_at_call 79; refine (pairs_in (n - 1) _ _ _ _).mono ?_; rintro e w' ⟨rfl, rfl⟩)
  have bR := Boxed.new w 4 (.bool false)
  have bN := Boxed.new (w.alloc (.cells #[.bool false] 4)) 156 (.slice a len cap)
  rw [World.size_alloc] at bN
  have hB0 : Below w.heap.size w ((w.alloc (.cells #[.bool false] 4)).alloc (.cells #[.slice a len cap] 156)) := ((Below.refl _ w).alloc (Nat.le_refl _) _).alloc (by simp) _
  refine wpIn_rangeFunc_ownG hro h1 (gf := 102) (lb := #[.pointer (some ⟨w.heap.size + 1, 0, none⟩)]) rfl trivial (enters_of Tryz.func102 (by kernel_rfl) rfl)
    (pairs_stops (n - 1) (by omega) (w.heap.size + 1) (w.heap.size + 2) _ ss hreach _ (by omega) (by simp) bN.cell ((hI.below hB0).mono (by omega))) belowK_t (belowK_b (by simp)) (Below.refl _ _) (fun _ => rfl)
    (fun pre W => (Hid (allP pre = true) ∧ W.cell? ⟨w.heap.size, 0, none⟩ = some (.bool false) ∧ W.frozen? ⟨w.heap.size, 0, none⟩ = false) ∧ Below w.heap.size w W)
    (fun c pre W => (c = .ret ∧ Hid (allP pre = false) ∧ W.cell? ⟨w.heap.size, 0, none⟩ = some (.bool false)) ∧ Below w.heap.size w W)
    (OwnFrom.and (Own.from (fun s A B row hs hg hr => ⟨hs.1, cell_kept hs.2.1 hg hr, (frozen_kept hs.2.1 hg hr).trans hs.2.2⟩) _) (ownFrom_below (Nat.le_refl _) (by simp; omega)))
    (fun c => OwnFrom.and (Own.from (fun s A B row hs hg hr => by exact ⟨hs.1, hs.2.1, cell_kept hs.2.2 hg hr⟩) _) (ownFrom_below (Nat.le_refl _) (by simp; omega)))
    ⟨⟨hide rfl, (bR.alloc _).cell, (bR.alloc _).frozen⟩, hB0⟩
    (fun x => { tmps := #[.slice a len cap, undef, .pointer (some ⟨w.heap.size, 0, none⟩), .string x.1, .string x.2, .slice a len cap, .func (.func 102) #[] #[.pointer (some ⟨w.heap.size + 1, 0, none⟩)], .string x.1, .string x.2, undef, undef, undef], defers := [] }) ?assign ?body ?done ?stop
  case assign =>
    intro l x W K hK
    gi_wp2
    exact hK
  case body =>
    rintro l pre x W ⟨⟨hp, hcr, hfr⟩, hB⟩ _
    gi_wp2
    · have hx : (!Op.bytesLess x.fst.toList x.snd.toList) = true := by assumption
      have hx' : lessP x = false := by simpa [lessP] using hx
      exact ⟨(KeepsOthers.setCell _ _ _).from _, ⟨rfl, hide (by rw [allP_snoc, hx', Bool.and_false]), World.cell?_setCell_same' _ _ _ (by rw [hcr]; rfl)⟩, hB.setCell (p := ⟨w.heap.size, 0, none⟩) (Nat.le_refl _) _⟩
    · have hx : (!Op.bytesLess x.fst.toList x.snd.toList) = false := by assumption
      have hx' : lessP x = true := by simpa [lessP] using hx
      exact ⟨KeepsFrom.refl _ _, Below.refl _ _, ⟨hide (by rw [allP_snoc, hx', unhide hp]; rfl), hcr, hfr⟩, hB⟩
  case done =>
    rintro D ys W hD rfl ⟨⟨hne, hcr, hfr⟩, hB⟩ hK
    gi_wp2
    have hK' := (KeepsOthers.setCell W ⟨w.heap.size, 0, none⟩ (.bool true)).same D _ hK rfl
    refine ⟨by simp, .inl ⟨_, _, rfl, run_takeDeferred hK', ?_⟩⟩
    have hc5 := cell_kept (World.cell?_setCell_same' W ⟨w.heap.size, 0, none⟩ (.bool true) (by rw [hcr]; rfl)) (grownBy_putObj' _ D (.deferred none)) (fun r e => by cases e; exact ⟨_, hK', rfl⟩)
    have hr : riseB ss = true := unhide hne
    refine ⟨.bool true, ?_, by rw [hr], (hB.setCell (p := ⟨w.heap.size, 0, none⟩) (Nat.le_refl _) _).trans (belowK_b (w := w) (Nat.le_refl _) _ D _ _ (by simp at hD; omega) hK' rfl rfl)⟩
    simp [results, Tryz.f53, go_sem, hc5]
  case stop =>
    rintro D c pre W hD ⟨k, hk, rfl⟩ ⟨⟨rfl, hne, hcr⟩, hB⟩ hK
    gi_wp2
    refine ⟨by simp, .inl ⟨_, _, rfl, run_takeDeferred hK, ?_⟩⟩
    have hc5 := cell_kept hcr (grownBy_putObj' _ D (.deferred none)) (fun r e => by cases e; exact ⟨_, hK, rfl⟩)
    have hr : riseB ss = false := rise_no ss k hk (unhide hne)
    refine ⟨.bool false, ?_, by rw [hr], hB.trans (belowK_b (w := w) (Nat.le_refl _) W D _ _ (by simp at hD; omega) hK rfl rfl)⟩
    simp [results, Tryz.f53, go_sem, hc5]

end Go.Proofs.YtcjpaldijngnpaaGreatDoor.Sc

namespace Go.Proofs.YtcjpaldijngnpaaGreatDoor.Sc
open Go.RowKit Go.Shelf

attribute [local go_sem] Oper.semAt_some

theorem keeps_below {W W' : World} (hb : Below W.heap.size W W') : KeepsOthers W W' := ⟨hb.size, fun k _ hk _ => (hb.block k (Array.getElem?_eq_some_iff.1 hk).1).trans hk⟩
theorem cell_lt {w : World} {a : Addr} {v : Value} (h : w.cell? a = some v) : a.block < w.heap.size := by
  rcases Nat.lt_or_ge a.block w.heap.size with h' | h'
  · exact h'
  · simp [World.cell?, Array.getElem?_eq_none h'] at h

def namesB (l : List Txt) : Bool := l.all fun x => nameB x.1
theorem namesB_snoc (l : List Txt) (x : Txt) : namesB (l ++ [x]) = (namesB l && nameB x.1) := by simp [namesB]
theorem names_no (l : List Txt) (k : Nat) (h : namesB (l.take k) = false) : namesB l = false := by
  unfold namesB at *
  simp only [List.all_eq_false] at *
  obtain ⟨x, hx, hn⟩ := h
  exact ⟨x, List.mem_of_mem_take hx, hn⟩

set_option maxRecDepth 100000 in
set_option maxHeartbeats 2000000 in
theorem allNames_in (n : Nat) (hn : 3 ≤ n) (g Bs : Nat) (ns : List Txt) (w : World) (hG : Gives w g Bs ns) :
    CallsIn Fence.wide n Tryz.prog 51 #[.func (.func g) #[] #[.pointer (some ⟨Bs, 0, none⟩)]] w fun e W' => e = .returned (.bool (namesB ns)) ∧ Below w.heap.size w W' := by
  have h1 : 1 ≤ n := by omega
  have hro : Fence.wide.round = none := rfl
  obtain ⟨hg, _, hS⟩ := hG
  have hE : Enters Tryz.prog g := by
    rcases hg with rfl | rfl
    · exact enters_of Tryz.func78 (by kernel_rfl) rfl
    · exact enters_of Tryz.func103 (by kernel_rfl) rfl
  refine callsIn_of_wp_marks Tryz.func51 rfl trivial ?_ rfl
  simp only [Tryz.ntmps51, List.size_toArray, List.length_cons, List.length_nil, Nat.reduceAdd, Nat.reduceSub, Array.replicate_succ, Array.replicate_zero, List.push_toArray, List.append_toArray, List.nil_append, List.cons_append]
  gi_wp2
  have bR := Boxed.new w 4 (.bool false)
  have hB0 : Below w.heap.size w (w.alloc (.cells #[.bool false] 4)) := (Below.refl _ w).alloc (Nat.le_refl _) _
  refine wpIn_rangeFunc_ownG hro h1 (gf := g) (lb := #[.pointer (some ⟨Bs, 0, none⟩)]) rfl trivial hE
    (hS (n - 1) _ (by omega) hB0) belowK_t (belowK_b (by simp)) (Below.refl _ _) (fun _ => rfl)
    (fun pre W => (Hid (namesB pre = true) ∧ W.cell? ⟨w.heap.size, 0, none⟩ = some (.bool false) ∧ W.frozen? ⟨w.heap.size, 0, none⟩ = false) ∧ Below w.heap.size w W)
    (fun c pre W => (c = .ret ∧ Hid (namesB pre = false) ∧ W.cell? ⟨w.heap.size, 0, none⟩ = some (.bool false)) ∧ Below w.heap.size w W)
    (OwnFrom.and (Own.from (fun s A B row hs hg hr => ⟨hs.1, cell_kept hs.2.1 hg hr, (frozen_kept hs.2.1 hg hr).trans hs.2.2⟩) _) (ownFrom_below (Nat.le_refl _) (by simp)))
    (fun c => OwnFrom.and (Own.from (fun s A B row hs hg hr => by exact ⟨hs.1, hs.2.1, cell_kept hs.2.2 hg hr⟩) _) (ownFrom_below (Nat.le_refl _) (by simp)))
    ⟨⟨hide rfl, bR.cell, bR.frozen⟩, hB0⟩
    (fun x => { tmps := #[.func (.func g) #[] #[.pointer (some ⟨Bs, 0, none⟩)], undef, .pointer (some ⟨w.heap.size, 0, none⟩), .string x.1, .func (.func g) #[] #[.pointer (some ⟨Bs, 0, none⟩)], .string x.1, undef, undef, undef], defers := [] }) ?assign ?body ?done ?stop
  case assign =>
    intro l x W K hK
    gi_wp2
    exact hK
  case body =>
    rintro l pre x W ⟨⟨hp, hcr, hfr⟩, hB⟩ _
    have hs := x.2
    have h2 : 1 ≤ n - 1 - 1 := by omega
    cases hx : nameB x.1
    · gi_wp2_with (refine ⟨trivial, ?_⟩; gi_at_call 77; refine (CallsIn.inRound l (callsIn_wide.2 (name21 x.1 _ hs))).mono ?_; rintro e w3 ⟨rfl, hb3⟩; rw [hx]; have hcr3 := (hb3.cell (p := ⟨w.heap.size, 0, none⟩) (cell_lt hcr)).trans hcr; have hfr3 := (hb3.frozen (p := ⟨w.heap.size, 0, none⟩) (cell_lt hcr)).trans hfr)
      exact ⟨((keeps_below hb3).trans (KeepsOthers.setCell _ _ _)).from _, ⟨rfl, hide (by rw [namesB_snoc, hx, Bool.and_false]), World.cell?_setCell_same' _ _ _ (by rw [hcr3]; rfl)⟩, (hB.trans (hb3.mono hB.size)).setCell (p := ⟨w.heap.size, 0, none⟩) (Nat.le_refl _) _⟩
    · gi_wp2_with (refine ⟨trivial, ?_⟩; gi_at_call 77; refine (CallsIn.inRound l (callsIn_wide.2 (name21 x.1 _ hs))).mono ?_; rintro e w3 ⟨rfl, hb3⟩; rw [hx])
      have hcr3 := (hb3.cell (p := ⟨w.heap.size, 0, none⟩) (cell_lt hcr)).trans hcr
      have hfr3 := (hb3.frozen (p := ⟨w.heap.size, 0, none⟩) (cell_lt hcr)).trans hfr
      exact ⟨(keeps_below hb3).from _, hb3.mono hB.size, ⟨hide (by rw [namesB_snoc, hx, unhide hp]; rfl), hcr3, hfr3⟩, hB.trans (hb3.mono hB.size)⟩
  case done =>
    rintro D ys W hD rfl ⟨⟨hne, hcr, hfr⟩, hB⟩ hK
    gi_wp2
    have hK' := (KeepsOthers.setCell W ⟨w.heap.size, 0, none⟩ (.bool true)).same D _ hK rfl
    refine ⟨by simp, .inl ⟨_, _, rfl, run_takeDeferred hK', ?_⟩⟩
    have hc5 := cell_kept (World.cell?_setCell_same' W ⟨w.heap.size, 0, none⟩ (.bool true) (by rw [hcr]; rfl)) (grownBy_putObj' _ D (.deferred none)) (fun r e => by cases e; exact ⟨_, hK', rfl⟩)
    have hr : namesB ys = true := unhide hne
    refine ⟨.bool true, ?_, by rw [hr], (hB.setCell (p := ⟨w.heap.size, 0, none⟩) (Nat.le_refl _) _).trans (belowK_b (w := w) (Nat.le_refl _) _ D _ _ (by simp at hD; omega) hK' rfl rfl)⟩
    simp [results, Tryz.f51, go_sem, hc5]
  case stop =>
    rintro D c pre W hD ⟨k, hk, rfl⟩ ⟨⟨rfl, hne, hcr⟩, hB⟩ hK
    gi_wp2
    refine ⟨by simp, .inl ⟨_, _, rfl, run_takeDeferred hK, ?_⟩⟩
    have hc5 := cell_kept hcr (grownBy_putObj' _ D (.deferred none)) (fun r e => by cases e; exact ⟨_, hK, rfl⟩)
    have hr : namesB ns = false := names_no ns k (unhide hne)
    refine ⟨.bool false, ?_, by rw [hr], hB.trans (belowK_b (w := w) (Nat.le_refl _) W D _ _ (by simp at hD; omega) hK rfl rfl)⟩
    simp [results, Tryz.f51, go_sem, hc5]

theorem allNames10 (g Bs : Nat) (ns : List Txt) (w : World) (hG : Gives w g Bs ns) :
    Calls Tryz.prog 51 #[.func (.func g) #[] #[.pointer (some ⟨Bs, 0, none⟩)]] w fun e W' => e = .returned (.bool (namesB ns)) ∧ Below w.heap.size w W' :=
  callsIn_wide.1 (allNames_in 3 (Nat.le_refl _) g Bs ns w hG)

end Go.Proofs.YtcjpaldijngnpaaGreatDoor.Sc

namespace Go.Proofs.YtcjpaldijngnpaaGreatDoor.Sc
open Go.RowKit Go.Shelf

attribute [local go_sem] Oper.semAt_some

def eqT (nm : ByteArray) (x : Txt) : Bool := x.1.toList == nm.toList
def placeN (ns : List Txt) (nm : ByteArray) : Option Nat := ns.findIdx? (eqT nm)
def placeI (ns : List Txt) (nm : ByteArray) : Int := match placeN ns nm with | some k => k | none => -1
def noneB (nm : ByteArray) (l : List Txt) : Bool := l.all fun x => !eqT nm x
theorem noneB_snoc (nm : ByteArray) (l : List Txt) (x : Txt) : noneB nm (l ++ [x]) = (noneB nm l && !eqT nm x) := by simp [noneB]
theorem place_none {ns : List Txt} {nm : ByteArray} (h : noneB nm ns = true) : placeI ns nm = -1 := by
  have : placeN ns nm = none := by
    simp only [placeN, List.findIdx?_eq_none_iff]
    simpa [noneB] using h
  simp [placeI, this]
theorem place_some {ns q : List Txt} {x : Txt} {nm : ByteArray} {k : Nat} (e : q ++ [x] = ns.take k) (hq : noneB nm q = true) (hx : eqT nm x = true) : placeI ns nm = q.length := by
  have : placeN ns nm = some q.length := by
    have e2 : ns = q ++ ([x] ++ ns.drop k) := by rw [← List.append_assoc, e, List.take_append_drop]
    have h0 : List.findIdx? (eqT nm) q = none := by
      rw [List.findIdx?_eq_none_iff]; simpa [noneB] using hq
    rw [placeN, e2, List.findIdx?_append, h0]
    simp [List.findIdx?_cons, hx]
  simp [placeI, this]

set_option maxRecDepth 100000 in
set_option maxHeartbeats 2000000 in
theorem place_in (n : Nat) (hn : 3 ≤ n) (g Bs : Nat) (nm : ByteArray) (ns : List Txt) (w : World) (hG : Gives w g Bs ns) :
    CallsIn Fence.wide n Tryz.prog 95 #[.func (.func g) #[] #[.pointer (some ⟨Bs, 0, none⟩)], .string nm] w fun e W' => e = .returned (.int .i64 (placeI ns nm)) ∧ Below w.heap.size w W' := by
  have h1 : 1 ≤ n := by omega
  have hro : Fence.wide.round = none := rfl
  obtain ⟨hg, h5, hS⟩ := hG
  have hE : Enters Tryz.prog g := by
    rcases hg with rfl | rfl
    · exact enters_of Tryz.func78 (by kernel_rfl) rfl
    · exact enters_of Tryz.func103 (by kernel_rfl) rfl
  refine callsIn_of_wp_marks Tryz.func95 rfl trivial ?_ rfl
  simp only [Tryz.ntmps95, List.size_toArray, List.length_cons, List.length_nil, Nat.reduceAdd, Nat.reduceSub, Array.replicate_succ, Array.replicate_zero, List.push_toArray, List.append_toArray, List.nil_append, List.cons_append]
  gi_wp2
  have bN := Boxed.new w 9 (.string nm)
  have bR := Boxed.new (w.alloc (.cells #[.string nm] 9)) 3 (.int .i64 0)
  have bI := Boxed.new ((w.alloc (.cells #[.string nm] 9)).alloc (.cells #[.int .i64 0] 3)) 3 (.int .i64 0)
  simp only [World.size_alloc] at bR bI
  have hB0 : Below w.heap.size w (((w.alloc (.cells #[.string nm] 9)).alloc (.cells #[.int .i64 0] 3)).alloc (.cells #[.int .i64 0] 3)) := (((Below.refl _ w).alloc (Nat.le_refl _) _).alloc (by simp) _).alloc (by simp; omega) _
  refine wpIn_rangeFunc_ownG hro h1 (gf := g) (lb := #[.pointer (some ⟨Bs, 0, none⟩)]) rfl trivial hE
    (hS (n - 1) _ (by omega) hB0) belowK_t (belowK_b (by simp; omega)) (Below.refl _ _) (fun _ => rfl)
    (fun pre W => (Hid (noneB nm pre = true) ∧ Boxed W w.heap.size 9 (.string nm) ∧ Boxed W (w.heap.size + 1) 3 (.int .i64 0) ∧ Boxed W (w.heap.size + 1 + 1) 3 (.int .i64 pre.length)) ∧ Below w.heap.size w W)
    (fun c pre W => (c = .ret ∧ Hid (∃ q x, pre = q ++ [x] ∧ noneB nm q = true ∧ eqT nm x = true) ∧ Boxed W (w.heap.size + 1) 3 (.int .i64 (pre.length - 1))) ∧ Below w.heap.size w W)
    (OwnFrom.and (Own.from (fun s A B row hs hg hr => ⟨hs.1, boxed_own _ _ (fun _ => _) s A B row hs.2.1 hg hr, boxed_own _ _ (fun _ => _) s A B row hs.2.2.1 hg hr, boxed_own _ _ (fun _ => _) s A B row hs.2.2.2 hg hr⟩) _) (ownFrom_below (Nat.le_refl _) (by simp; omega)))
    (fun c => OwnFrom.and (Own.from (fun s A B row hs hg hr => by exact ⟨hs.1, hs.2.1, boxed_own _ _ (fun _ => _) s A B row hs.2.2 hg hr⟩) _) (ownFrom_below (Nat.le_refl _) (by simp; omega)))
    ⟨⟨hide rfl, (bN.alloc _).alloc _, bR.alloc _, bI⟩, hB0⟩
    (fun x => { tmps := #[.func (.func g) #[] #[.pointer (some ⟨Bs, 0, none⟩)], .string nm, undef, .pointer (some ⟨w.heap.size, 0, none⟩), .pointer (some ⟨w.heap.size + 1, 0, none⟩), .pointer (some ⟨w.heap.size + 1 + 1, 0, none⟩), .string x.1, .func (.func g) #[] #[.pointer (some ⟨Bs, 0, none⟩)], .string x.1, undef, undef, undef, undef, undef, undef], defers := [] }) ?assign ?body ?done ?stop
  case assign =>
    intro l x W K hK
    gi_wp2
    exact hK
  case body =>
    rintro l pre x W ⟨⟨hp, hbn, hbr, hbi⟩, hB⟩ hlt
    have h2 : 1 ≤ n - 1 - 1 := by omega
    have hc1 := hbn.cell
    have hc2 := hbr.cell
    have hc3 := hbi.cell
    have hf2 := hbr.frozen
    have hf3 := hbi.frozen
    gi_wp2
    · have hx : eqT nm x = true := by assumption
      refine ⟨(KeepsOthers.setCell _ _ _).from _, ⟨rfl, hide ⟨pre, x, rfl, unhide hp, hx⟩, ?_⟩, hB.setCell (p := ⟨w.heap.size + 1, 0, none⟩) (by simp) _⟩
      have := hbr.set (.int .i64 pre.length)
      simpa using this
    · have hx : eqT nm x = false := by assumption
      refine ⟨(KeepsOthers.setCell _ _ _).from _, (Below.refl _ _).setCell (p := ⟨w.heap.size + 1 + 1, 0, none⟩) (by simp; omega) _, ⟨hide (by rw [noneB_snoc, hx, unhide hp]; rfl), hbn.other (by omega) _, hbr.other (by omega) _, ?_⟩, hB.setCell (p := ⟨w.heap.size + 1 + 1, 0, none⟩) (by simp; omega) _⟩
      have := hbi.set (.int .i64 (pre.length + 1))
      simpa using this
  case done =>
    rintro D ys W hD rfl ⟨⟨hne, hbn, hbr, hbi⟩, hB⟩ hK
    have hcr := hbr.cell
    have hfr := hbr.frozen
    gi_wp2
    have hK' := (KeepsOthers.setCell W ⟨w.heap.size + 1, 0, none⟩ (.int .i64 (-1))).same D _ hK rfl
    refine ⟨by simp, .inl ⟨_, _, rfl, run_takeDeferred hK', ?_⟩⟩
    have hc5 := cell_kept (World.cell?_setCell_same' W ⟨w.heap.size + 1, 0, none⟩ (.int .i64 (-1)) (by rw [hcr]; rfl)) (grownBy_putObj' _ D (.deferred none)) (fun r e => by cases e; exact ⟨_, hK', rfl⟩)
    have hr : placeI ys nm = -1 := place_none (unhide hne)
    refine ⟨.int .i64 (-1), ?_, by rw [hr], (hB.setCell (p := ⟨w.heap.size + 1, 0, none⟩) (by simp) _).trans (belowK_b (w := w) (Nat.le_refl _) _ D _ _ (by simp at hD; omega) hK' rfl rfl)⟩
    simp [results, Tryz.f95, go_sem, hc5]
  case stop =>
    rintro D c pre W hD ⟨k, hk, rfl⟩ ⟨⟨rfl, hne, hbr⟩, hB⟩ hK
    have hcr := hbr.cell
    gi_wp2
    refine ⟨by simp, .inl ⟨_, _, rfl, run_takeDeferred hK, ?_⟩⟩
    have hc5 := cell_kept hcr (grownBy_putObj' _ D (.deferred none)) (fun r e => by cases e; exact ⟨_, hK, rfl⟩)
    obtain ⟨q, x, e, hq, hx⟩ := unhide hne
    have hr : placeI ns nm = (ns.take k).length - 1 := by
      rw [place_some e.symm hq hx, e]; simp
    refine ⟨.int .i64 ((ns.take k).length - 1), ?_, by rw [hr], hB.trans (belowK_b (w := w) (Nat.le_refl _) W D _ _ (by simp at hD; omega) hK rfl rfl)⟩
    simp [results, Tryz.f95, go_sem] at hc5 ⊢
    simp [hc5]

theorem place16 (g Bs : Nat) (nm : ByteArray) (ns : List Txt) (w : World) (hG : Gives w g Bs ns) :
    Calls Tryz.prog 95 #[.func (.func g) #[] #[.pointer (some ⟨Bs, 0, none⟩)], .string nm] w fun e W' => e = .returned (.int .i64 (placeI ns nm)) ∧ Below w.heap.size w W' :=
  callsIn_wide.1 (place_in 3 (Nat.le_refl _) g Bs nm ns w hG)

end Go.Proofs.YtcjpaldijngnpaaGreatDoor.Sc

namespace Go.Proofs.YtcjpaldijngnpaaGreatDoor.Sc
open Go.RowKit Go.Shelf

attribute [local go_sem] Oper.semAt_some

theorem info9 : (Tryz.prog.info? 9).map (fun i => (i.zero, i.size, i.bytes)) = some (some (.string ⟨#[]⟩), 1, 16) := by kernel_rfl

set_option maxRecDepth 100000 in
set_option maxHeartbeats 2000000 in
theorem appendSeq_in (n : Nat) (hn : 3 ≤ n) (g Bs : Nat) (ns : List Txt) (w : World) (hG : Gives w g Bs ns) :
    CallsIn Fence.wide n Tryz.prog 80 #[.slice none 0 0, .func (.func g) #[] #[.pointer (some ⟨Bs, 0, none⟩)]] w fun e W' => ∃ v, e = .returned v ∧ W'.ownsRow w.heap.size 9 1 v ns.length (ns.map fun x => Value.string x.1) ∧ (v = .slice none 0 0 ↔ ns = []) ∧ Below w.heap.size w W' := by
  have h1 : 1 ≤ n := by omega
  have hro : Fence.wide.round = none := rfl
  obtain ⟨hg, h5, hS⟩ := hG
  have hE : Enters Tryz.prog g := by
    rcases hg with rfl | rfl
    · exact enters_of Tryz.func78 (by kernel_rfl) rfl
    · exact enters_of Tryz.func103 (by kernel_rfl) rfl
  obtain ⟨i0, hi, hz0, hz1, hz2⟩ := info_parts info9
  refine callsIn_of_wp_marks Tryz.func80 rfl trivial ?_ rfl
  simp only [Tryz.ntmps80, List.size_toArray, List.length_cons, List.length_nil, Nat.reduceAdd, Nat.reduceSub, Array.replicate_succ, Array.replicate_zero, List.push_toArray, List.append_toArray, List.nil_append, List.cons_append]
  gi_wp2
  have bO := Boxed.new w 112 (.slice none 0 0)
  have hB0 : Below w.heap.size w (w.alloc (.cells #[.slice none 0 0] 112)) := (Below.refl _ w).alloc (Nat.le_refl _) _
  refine wpIn_rangeFunc_ownG hro h1 (gf := g) (lb := #[.pointer (some ⟨Bs, 0, none⟩)]) rfl trivial hE
    (hS (n - 1) _ (by omega) hB0) belowK_t (belowK_b (by simp)) (Below.refl _ _) (fun _ => rfl)
    (fun pre W => (∃ v, Boxed W w.heap.size 112 v ∧ W.ownsRow w.heap.size 9 1 v pre.length (pre.map fun x : Txt => Value.string x.1) ∧ (v = .slice none 0 0 ↔ pre = [])) ∧ Below w.heap.size w W)
    (fun _ _ _ => False)
    (OwnFrom.and (Own.from (holdsRow_own w.heap.size w.heap.size 112 9 1 (fun pre : List Txt => pre.length) (fun pre => pre.map fun x : Txt => Value.string x.1) (fun pre v => v = .slice none 0 0 ↔ pre = [])) _) (ownFrom_below (Nat.le_refl _) (by simp)))
    (fun _ _ _ _ _ hs _ _ => hs)
    ⟨⟨_, bO, World.ownsRow_nil _ _ _ _, by simp⟩, hB0⟩
    (fun x => { tmps := #[.slice none 0 0, .func (.func g) #[] #[.pointer (some ⟨Bs, 0, none⟩)], .pointer (some ⟨w.heap.size, 0, none⟩), undef, .slice none 0 0, .string x.1, .func (.func g) #[] #[.pointer (some ⟨Bs, 0, none⟩)], .string x.1, undef, undef, undef, undef, undef], defers := [] }) ?assign ?body ?done ?stop
  case assign =>
    intro l x W K hK
    gi_wp2
    exact hK
  case body =>
    rintro l pre y W ⟨⟨v, hv, hrow, hnil⟩, hB⟩ hlt
    have hc := hv.cell
    have hnil := hide hnil
    gi_wp2_with (gi_at_builtin; refine wpListIn_append_own_at _ rfl _ _ 112 rfl w.heap.size 9 i0 (.string ⟨#[]⟩) 1 16 Tryz.underlying112 hi hz0 hz1 hz2 rfl (by decide) _ _ _ rfl (hrow.alloc _) ⟨W.heap.size, 0, none⟩ 1 1 [.string y.1] rfl rfl (cell_one_new _ _ _) (by simp [Value.oneCell']) (by unfold maxLen; omega) (by omega) (by have := hB.size; simp; omega) ?_; intro v' w2 hown' hgrow _ hat0; have hat := hide hat0; clear hat0; obtain ⟨g', cap', rfl⟩ := ownsRow_succ hown'; obtain ⟨hv1, hv2, hr2, hk2, hb2⟩ := hv.appended (by decide) hrow hB.size (Nat.le_refl _) hown' hgrow; have hc1 := hv1.cell; have hf1 := hv1.frozen)
    exact ⟨hk2.from _, hb2, ⟨_, hv2, by simpa using hr2, by simp⟩, hB.trans hb2⟩
  case done =>
    rintro D ys W hD rfl ⟨⟨v, hv, hrow, hnil⟩, hB⟩ hK
    have hc := hv.cell
    gi_wp2
    refine ⟨by simp, .inl ⟨_, _, rfl, run_takeDeferred hK, ?_⟩⟩
    exact ⟨_, results_tmp rfl _ _ _, v, rfl, ownsRow_putObj hrow _ hK rfl, hnil, hB.trans (belowK_b (w := w) (Nat.le_refl _) W D _ _ (by simp at hD; omega) hK rfl rfl)⟩
  case stop =>
    rintro D c pre W _ _ h _
    exact h.elim

end Go.Proofs.YtcjpaldijngnpaaGreatDoor.Sc

namespace Go.Proofs.YtcjpaldijngnpaaGreatDoor.Sc
open Go.Shelf Go.RowKit

def lays190_ren : Go.Shelf.Ren := ⟨fun | 190 => 104 | 125 => 113 | 258 => 112 | 128 => 125 | 129 => 126 | 302 => 116 | 303 => 117 | 304 => 118 | 305 => 119 | 306 => 120 | 307 => 121 | 308 => 122 | 309 => 123 | 310 => 124 | 333 => 127 | 329 => 128 | 330 => 129 | 334 => 130 | 335 => 131 | 336 => 132 | 344 => 133 | n => n, fun | 31 => 112 | 9 => 9 | 3 => 3 | 46 => 195 | 0 => 0 | 51 => 208 | 53 => 210 | 4 => 4 | 183 => 201 | 182 => 200 | 131 => 205 | 5 => 5 | 218 => 211 | 222 => 215 | 228 => 217 | 229 => 218 | n => n, fun | n => n⟩

theorem lays190 : Go.Proofs.Lays.n190 Tryz.prog lays190_ren := {
  mixed := by kernel_rfl
  f125 := Tryz.func113.trans (congrArg some (by kernel_rfl))
  f128 := Tryz.func125.trans (congrArg some (by kernel_rfl))
  f129 := Tryz.func126.trans (congrArg some (by kernel_rfl))
  f190 := Tryz.func104.trans (congrArg some (by kernel_rfl))
  f258 := Tryz.func112.trans (congrArg some (by kernel_rfl))
  f302 := Tryz.func116.trans (congrArg some (by kernel_rfl))
  f303 := Tryz.func117.trans (congrArg some (by kernel_rfl))
  f304 := Tryz.func118.trans (congrArg some (by kernel_rfl))
  f305 := Tryz.func119.trans (congrArg some (by kernel_rfl))
  f306 := Tryz.func120.trans (congrArg some (by kernel_rfl))
  f307 := Tryz.func121.trans (congrArg some (by kernel_rfl))
  f308 := Tryz.func122.trans (congrArg some (by kernel_rfl))
  f309 := Tryz.func123.trans (congrArg some (by kernel_rfl))
  f310 := Tryz.func124.trans (congrArg some (by kernel_rfl))
  f329 := Tryz.func128.trans (congrArg some (by kernel_rfl))
  f330 := Tryz.func129.trans (congrArg some (by kernel_rfl))
  f333 := Tryz.func127.trans (congrArg some (by kernel_rfl))
  f334 := Tryz.func130.trans (congrArg some (by kernel_rfl))
  f335 := Tryz.func131.trans (congrArg some (by kernel_rfl))
  f336 := Tryz.func132.trans (congrArg some (by kernel_rfl))
  f344 := Tryz.func133.trans (congrArg some (by kernel_rfl))
  t0 := Tryz.underlying0
  a0 := Tryz.isAgg0
  z0 := Tryz.sizeOf0
  v0 := Tryz.zeroValue0
  t3 := Tryz.underlying3
  a3 := Tryz.isAgg3
  z3 := Tryz.sizeOf3
  v3 := Tryz.zeroValue3
  t4 := Tryz.underlying4
  a4 := Tryz.isAgg4
  z4 := Tryz.sizeOf4
  v4 := Tryz.zeroValue4
  t5 := Tryz.underlying5
  a5 := Tryz.isAgg5
  z5 := Tryz.sizeOf5
  v5 := Tryz.zeroValue5
  t9 := Tryz.underlying9
  a9 := Tryz.isAgg9
  z9 := Tryz.sizeOf9
  v9 := Tryz.zeroValue9
  t31 := Tryz.underlying112
  a31 := Tryz.isAgg112
  z31 := Tryz.sizeOf112
  v31 := Tryz.zeroValue112
  t46 := Tryz.underlying195
  a46 := Tryz.isAgg195
  z46 := Tryz.sizeOf195
  v46 := Tryz.zeroValue195
  t51 := Tryz.underlying208
  a51 := Tryz.isAgg208
  z51 := Tryz.sizeOf208
  v51 := Tryz.zeroValue208
  t53 := Tryz.underlying210
  a53 := Tryz.isAgg210
  z53 := Tryz.sizeOf210
  v53 := Tryz.zeroValue210
  t131 := Tryz.underlying205
  a131 := Tryz.isAgg205
  z131 := Tryz.sizeOf205
  v131 := Tryz.zeroValue205
  t182 := Tryz.underlying200
  a182 := Tryz.isAgg200
  z182 := Tryz.sizeOf200
  v182 := Tryz.zeroValue200
  t183 := Tryz.underlying201
  a183 := Tryz.isAgg201
  z183 := Tryz.sizeOf201
  v183 := Tryz.zeroValue201
  t218 := Tryz.underlying211
  a218 := Tryz.isAgg211
  z218 := Tryz.sizeOf211
  v218 := Tryz.zeroValue211
  t222 := Tryz.underlying215
  a222 := Tryz.isAgg215
  z222 := Tryz.sizeOf215
  v222 := Tryz.zeroValue215
  t228 := Tryz.underlying217
  a228 := Tryz.isAgg217
  z228 := Tryz.sizeOf217
  v228 := Tryz.zeroValue217
  t229 := Tryz.underlying218
  a229 := Tryz.isAgg218
  z229 := Tryz.sizeOf218
  v229 := Tryz.zeroValue218 }




theorem strs_of_owns {W : World} {base n : Nat} {v : Value} {ss : List ByteArray} (h : W.ownsRow base 9 1 v n (ss.map Value.string)) : Strs W.heap.size W v ss := by
  have hn : ss.length = n := by have := h.1; simpa using this
  rcases h.2 with ⟨rfl, h0⟩ | ⟨g, cap, cur, rfl, _, hg, _, _, _, htake⟩
  · exact .inl ⟨_, _, rfl, List.length_eq_zero_iff.1 (by omega)⟩
  · refine .inr ⟨g, 0, cap, by rw [hn], (Array.getElem?_eq_some_iff.1 hg).1, fun j hj => ?_⟩
    have e2 : (cur.toList.take (n * 1))[j]? = cur[j]? := by rw [List.getElem?_take, if_pos (by omega), Array.getElem?_toList]
    rw [htake] at e2
    simp only [Nat.zero_add, World.cell?, hg]
    simp at e2
    simp [← e2, hj]

theorem collect13o (g Bs : Nat) (ns : List Txt) (w : World) (hG : Gives w g Bs ns) :
    Calls Tryz.prog 54 #[.func (.func g) #[] #[.pointer (some ⟨Bs, 0, none⟩)]] w fun e W' => ∃ v, e = .returned v ∧ W'.ownsRow w.heap.size 9 1 v ns.length (ns.map fun x => Value.string x.1) ∧ (v = .slice none 0 0 ↔ ns = []) ∧ Below w.heap.size w W' := by
  go_enter Tryz.func54, Tryz.ntmps54
  go_wp2_with (go_at_call 80; refine (callsIn_wide.1 (appendSeq_in 3 (Nat.le_refl _) g Bs ns w hG)).mono ?_; rintro e W' ⟨v, rfl, ho, hn, hb⟩)
  go_ret
  exact ⟨v, rfl, ho, hn, hb⟩

theorem strs_form {n₀ : Nat} {W : World} {v : Value} {ss : List ByteArray} (h : Strs n₀ W v ss) : ∃ a c, v = .slice a ss.length c := by
  rcases h with ⟨_, _, rfl, rfl⟩ | ⟨b, off, c, rfl, _⟩
  · exact ⟨_, _, rfl⟩
  · exact ⟨_, _, rfl⟩

/-- The texts, as they stand. -/
def txts (ns : List Txt) : List ByteArray := ns.map fun x => x.1

theorem collect13 (g Bs : Nat) (ns : List Txt) (w : World) (hG : Gives w g Bs ns) :
    Calls Tryz.prog 54 #[.func (.func g) #[] #[.pointer (some ⟨Bs, 0, none⟩)]] w fun e W' => ∃ a c, e = .returned (.slice a ns.length c) ∧ Strs W'.heap.size W' (.slice a ns.length c) (txts ns) ∧ Below w.heap.size w W' := by
  refine (collect13o g Bs ns w hG).mono ?_
  rintro e W' ⟨v, rfl, ho, _, hb⟩
  have hs : Strs W'.heap.size W' v (txts ns) := strs_of_owns (n := ns.length) (base := w.heap.size) (by simpa [txts, Function.comp_def] using ho)
  obtain ⟨a, c, rfl⟩ := strs_form hs
  refine ⟨a, c, by simp [txts], by simpa [txts] using hs, hb⟩

/-- The bytes of each. -/
def bytesOf (ns : List Txt) : List (List UInt8) := ns.map fun x => x.1.data.toList
def sortB (ns : List Txt) : List (List UInt8) := (bytesOf ns).mergeSort fun x y => decide (x ≤ y)
/-- The texts, sorted. -/
def sortT (ns : List Txt) : List ByteArray := (sortB ns).map fun l => ⟨l.toArray⟩
theorem sortT_len (ns : List Txt) : (sortT ns).length = ns.length := by simp [sortT, sortB, bytesOf]

theorem sorted26 (g Bs : Nat) (ns : List Txt) (w : World) (hG : Gives w g Bs ns) :
    Calls Tryz.prog 83 #[.func (.func g) #[] #[.pointer (some ⟨Bs, 0, none⟩)]] w fun e W' => ∃ a c, e = .returned (.slice a ns.length c) ∧ Strs W'.heap.size W' (.slice a ns.length c) (sortT ns) ∧ Below w.heap.size w W' := by
  have h5 : ns.length ≤ 5 := hG.2.1
  go_enter Tryz.func83, Tryz.ntmps83
  go_wp2_with (go_at_call 54; refine (collect13o g Bs ns w hG).mono ?_; rintro e W ⟨v, rfl, hrow, hnil, hb⟩)
  rcases hrow.2 with ⟨rfl, hz⟩ | ⟨gb, cap, cur, rfl, hbase, hgb, r1, r2, r3, r4⟩
  · have hss : ns = [] := List.eq_nil_of_length_eq_zero hz
    subst hss
    go_wp2_with (go_at_call 104; refine (Any.slices_Sort_string_none lays190 none 0 W).mono ?_; rintro e w' ⟨rfl, rfl⟩)
    go_ret
    exact ⟨_, _, rfl, .inl ⟨_, _, rfl, List.length_eq_zero_iff.1 (sortT_len [])⟩, hb⟩
  · have e1 : (bytesOf ns).length = ns.length := by simp [bytesOf]
    have e2 : (ns.map fun x => Value.string x.1) = (bytesOf ns).map encStr := by simp [bytesOf]
    have hH : Sort.Holds encStr W gb 0 (bytesOf ns).toArray := holds_of_block hgb (by rw [e1, ← e2]; simpa using r4)
    have hgl : gb < W.heap.size := (Array.getElem?_eq_some_iff.1 hgb).1
    have hsz : (bytesOf ns).length < 4611686018427387904 := by omega
    have cS := Any.slices_Sort_string lays190 gb 0 cap (bytesOf ns) W hH hgl hsz
    rw [e1] at cS
    go_wp2_with (go_at_call 104; refine cS.mono ?_; rintro e w' ⟨rfl, nn, os, rfl⟩)
    go_ret
    refine ⟨_, _, rfl, ?_, hb.grown (grownBy_sorted _) hb.size (fun j hj => by cases hj; exact hbase)⟩
    have ho := ownsRow_sorted (n := nn) (os := os) (ss := bytesOf ns) (ts := sortB ns) (by simp [sortB]) hbase hgb (by rw [e1]; exact r1) r2 r3
    rw [e1] at ho
    exact strs_of_owns (n := ns.length) (base := w.heap.size) (by simpa [sortT, sortB, Function.comp_def] using ho)


end Go.Proofs.YtcjpaldijngnpaaGreatDoor.Sc

namespace Go.Proofs.YtcjpaldijngnpaaGreatDoor.Sc
open Go.RowKit Go.Shelf

/-- A field: its name, its kind. -/
abbrev Fd := Txt × Int
abbrev fd (fs : List Fd) (j : Nat) : Fd := fs[j]?.getD default
/-- The slice at a has these fields, below n₀. -/
def Flds (n₀ : Nat) (W : World) (a : Option Addr) (fs : List Fd) : Prop :=
  fs = [] ∨ ∃ b off, a = some ⟨b, off, none⟩ ∧ b < n₀ ∧ ∀ j, j < fs.length → W.cell? ⟨b, off + j * 2, none⟩ = some (.string (fd fs j).1.1) ∧ W.cell? ⟨b, off + j * 2 + 1, none⟩ = some (.int .i64 (fd fs j).2)
theorem Flds.below {n₀ : Nat} {A B : World} (h : Below n₀ A B) {a : Option Addr} {fs : List Fd} : Flds n₀ A a fs → Flds n₀ B a fs
  | .inl e => .inl e
  | .inr ⟨b, off, e, hb, hc⟩ => .inr ⟨b, off, e, hb, fun j hj => ⟨(h.cell (p := ⟨b, off + j * 2, none⟩) hb).trans (hc j hj).1, (h.cell (p := ⟨b, off + j * 2 + 1, none⟩) hb).trans (hc j hj).2⟩⟩
theorem Flds.mono {n₀ n₁ : Nat} (hn : n₀ ≤ n₁) {A : World} {a : Option Addr} {fs : List Fd} : Flds n₀ A a fs → Flds n₁ A a fs
  | .inl e => .inl e
  | .inr ⟨b, off, e, hb, hc⟩ => .inr ⟨b, off, e, Nat.lt_of_lt_of_le hb hn, hc⟩
theorem Flds.on {A B : World} {a : Option Addr} {fs : List Fd} (h : Flds A.heap.size A a fs) (hb : Below A.heap.size A B) : Flds B.heap.size B a fs := (h.below hb).mono hb.size
def fnames (fs : List Fd) : List Txt := fs.map fun f => f.1
theorem fnames_len (fs : List Fd) : (fnames fs).length = fs.length := by simp [fnames]
theorem Flds.names {n₀ : Nat} {W : World} {a : Option Addr} {fs : List Fd} : Flds n₀ W a fs → FNames n₀ W a (fnames fs)
  | .inl e => .inl (by rw [e]; rfl)
  | .inr ⟨b, off, e, hb, hc⟩ => .inr ⟨b, off, e, hb, fun j hj => by
      rw [fnames_len] at hj
      refine ⟨(hc j hj).1.trans ?_, _, (hc j hj).2⟩
      simp [fd, tx, fnames, hj]⟩

/-- No kind that there is. -/
def badK (k : Int) : Bool := !(decide (k = 1) || decide (k = 2) || decide (k = 3))
theorem isB_zero (k : Int) : isB (zeroK k) 0 ⟨#[]⟩ = !badK k := by
  have e : (⟨#[]⟩ : ByteArray).toList = [] := by unfold ByteArray.toList ByteArray.toList.loop; rfl
  have t : isTextB ⟨#[]⟩ = true := by decide
  have i : inB 0 1 0 = true := by decide
  unfold zeroK badK
  by_cases h1 : k = 1
  · subst h1; simp [isB, e]
  by_cases h2 : k = 2
  · subst h2; simp [isB, t]
  by_cases h3 : k = 3
  · subst h3; simp [isB, e, i]
  · simp [isB, h1, h2, h3]

set_option maxHeartbeats 400000 in
theorem badKind28 (s : ByteArray) (k : Int) (w : World) :
    Calls Tryz.prog 85 #[.agg #[.string s, .int .i64 k]] w fun e w' => e = .returned (.bool (badK k)) ∧ Below w.heap.size w w' := by
  have hk := isB_zero k
  go_enter Tryz.func85, Tryz.ntmps85
  go_wp2_with fail
  refine (zero37 _ _).mono ?_
  rintro e w1 ⟨rfl, hb1⟩
  go_wp2_with fail
  refine (is36 _ _ _ _ (by decide)).mono ?_
  rintro e w2 ⟨rfl, hb2⟩
  rw [hk]
  clear hk
  go_wp2_with fail
  go_ret
  have b1 := ((Below.refl _ w).alloc (Nat.le_refl _) (.cells #[.string s, .int .i64 k] 66)).trans (hb1.mono (by simp))
  exact ⟨by simp, b1.trans (hb2.mono b1.size)⟩

def anyBad (fs : List Fd) : Bool := fs.any fun f => badK f.2
theorem anyBad_snoc (fs : List Fd) (f : Fd) : anyBad (fs ++ [f]) = (anyBad fs || badK f.2) := by simp [anyBad]

set_option maxHeartbeats 1000000 in
theorem index35 (a : Option Addr) (cap : Nat) (fs : List Fd) (h5 : fs.length ≤ 5) (w : World) (hF : Flds w.heap.size w a fs) :
    Calls Tryz.prog 105 #[.slice a fs.length cap, .func (.func 85) #[] #[]] w fun e w' => ∃ i : Int, e = .returned (.int .i64 i) ∧ decide (0 ≤ i) = anyBad fs ∧ Below w.heap.size w w' := by
  rcases hF with rfl | ⟨b, off, rfl, hb, hc⟩
  · go_enter Tryz.func105, Tryz.ntmps105
    go_wp2
    go_loopw [8] (fun i wr => i = .int .i64 0 ∧ Below w.heap.size w wr) (fun _ _ => 0)
    case atStart => exact ⟨rfl, Below.refl _ _⟩
    case round =>
      obtain ⟨rfl, hb⟩ := hrel
      go_wp2
      go_ret
      exact ⟨_, rfl, by simp [anyBad], hb⟩
  · have hc := hide hc
    go_enter Tryz.func105, Tryz.ntmps105
    go_wp2
    go_loopw [8] (fun i wr => ∃ k : Nat, k ≤ fs.length ∧ i = .int .i64 k ∧ anyBad (fs.take k) = false ∧ Below w.heap.size w wr) (fun i _ => fs.length - (intOf i).toNat)
    case atStart => exact ⟨0, Nat.zero_le _, rfl, rfl, Below.refl _ _⟩
    case round =>
      obtain ⟨k, hk, rfl, hall, hbw⟩ := hrel
      have H := hide hall
      clear hall
      by_cases hlt : k < fs.length
      · have hc1 : wr.cell? ⟨b, off + k * 2, none⟩ = some (.string (fd fs k).1.1) := (hbw.cell (p := ⟨b, off + k * 2, none⟩) hb).trans (unhide hc k hlt).1
        have hc2 : wr.cell? ⟨b, off + k * 2 + 1, none⟩ = some (.int .i64 (fd fs k).2) := (hbw.cell (p := ⟨b, off + k * 2 + 1, none⟩) hb).trans (unhide hc k hlt).2
        have hsucc := hide (show fs.take (k + 1) = fs.take k ++ [fd fs k] by rw [List.take_succ_eq_append_getElem hlt]; simp [fd, hlt])
        cases hbad : badK (fd fs k).2
        · go_wp2_with fail
          refine (badKind28 _ _ _).mono ?_
          rintro e w2 ⟨rfl, hb2⟩
          rw [hbad]
          go_wp2_with fail
          go_roundw
          case rel => exact ⟨k + 1, by omega, by go_num, by rw [unhide hsucc, anyBad_snoc, unhide H, hbad]; rfl, hbw.trans (hb2.mono hbw.size)⟩
          case measure => simp [intOf]; omega
        · go_wp2_with fail
          refine (badKind28 _ _ _).mono ?_
          rintro e w2 ⟨rfl, hb2⟩
          rw [hbad]
          go_wp2_with fail
          go_ret
          refine ⟨_, rfl, ?_, hbw.trans (hb2.mono hbw.size)⟩
          have h1 : anyBad (fs.take (k + 1)) = true := by rw [unhide hsucc, anyBad_snoc, hbad, Bool.or_true]
          have h2 : anyBad fs = true := by
            unfold anyBad at h1 ⊢
            rw [List.any_eq_true] at h1 ⊢
            obtain ⟨x, hx, hb⟩ := h1
            exact ⟨x, List.mem_of_mem_take hx, hb⟩
          rw [h2]; simp
      · go_wp2
        go_ret
        refine ⟨_, rfl, ?_, hbw⟩
        have := unhide H
        rw [List.take_of_length_le (by omega)] at this
        rw [this]; rfl

set_option maxHeartbeats 400000 in
theorem contains27 (a : Option Addr) (cap : Nat) (fs : List Fd) (h5 : fs.length ≤ 5) (w : World) (hF : Flds w.heap.size w a fs) :
    Calls Tryz.prog 84 #[.slice a fs.length cap, .func (.func 85) #[] #[]] w fun e w' => e = .returned (.bool (anyBad fs)) ∧ Below w.heap.size w w' := by
  go_enter Tryz.func84, Tryz.ntmps84
  go_wp2_with fail
  refine (index35 a cap fs h5 w hF).mono ?_
  rintro e w1 ⟨i, rfl, hi, hb1⟩
  have hi := hide hi
  go_wp2_with fail
  go_ret
  exact ⟨by rw [← unhide hi]; rfl, hb1⟩

end Go.Proofs.YtcjpaldijngnpaaGreatDoor.Sc

namespace Go.Proofs.YtcjpaldijngnpaaGreatDoor.Sc
open Go.RowKit Go.Shelf

theorem rise12 (a : Option Addr) (len cap : Nat) (ss : List ByteArray) (h5 : ss.length ≤ 5) (w : World) (hI : Strs w.heap.size w (.slice a len cap) ss) :
    Calls Tryz.prog 53 #[.slice a len cap] w fun e W' => e = .returned (.bool (riseB ss)) ∧ Below w.heap.size w W' := callsIn_wide.1 (rise_in 3 (Nat.le_refl _) a len cap ss (by omega) w hI)
theorem types11 (a : Option Addr) (len cap : Nat) (w : World) :
    Calls Tryz.prog 52 #[.slice a len cap] w fun e w' => e = .returned (.func (.func 78) #[] #[.pointer (some ⟨w.heap.size, 0, none⟩)]) ∧ w' = w.alloc (.cells #[.slice a len cap] 22) := callsIn_wide.1 (types_in 3 a len cap w)
theorem fields18 (a : Option Addr) (len cap : Nat) (w : World) :
    Calls Tryz.prog 82 #[.slice a len cap] w fun e w' => e = .returned (.func (.func 103) #[] #[.pointer (some ⟨w.heap.size, 0, none⟩)]) ∧ w' = w.alloc (.cells #[.slice a len cap] 67) := callsIn_wide.1 (fields_in 3 a len cap w)

/-- The same, said by what it gives. -/
theorem fields18g (a : Option Addr) (cap : Nat) (fs : List Fd) (h5 : fs.length ≤ 5) (w : World) (hF : Flds w.heap.size w a fs) :
    Calls Tryz.prog 82 #[.slice a fs.length cap] w fun e w' => ∃ Bs, e = .returned (.func (.func 103) #[] #[.pointer (some ⟨Bs, 0, none⟩)]) ∧ Gives w' 103 Bs (fnames fs) ∧ Below w.heap.size w w' := by
  refine (fields18 a fs.length cap w).mono ?_
  rintro e w' ⟨rfl, rfl⟩
  have hg := fields_give w a cap (fnames fs) (by rw [fnames_len]; exact h5) hF.names
  rw [fnames_len] at hg
  exact ⟨_, rfl, hg, (Below.refl _ _).alloc (Nat.le_refl _) _⟩
theorem types11g (a : Option Addr) (cap : Nat) (ns : List Txt) (h5 : ns.length ≤ 5) (w : World) (hT : TNames w.heap.size w a ns) :
    Calls Tryz.prog 52 #[.slice a ns.length cap] w fun e w' => ∃ Bs, e = .returned (.func (.func 78) #[] #[.pointer (some ⟨Bs, 0, none⟩)]) ∧ Gives w' 78 Bs ns ∧ Below w.heap.size w w' := by
  refine (types11 a ns.length cap w).mono ?_
  rintro e w' ⟨rfl, rfl⟩
  exact ⟨_, rfl, types_give w a cap ns h5 hT, (Below.refl _ _).alloc (Nat.le_refl _) _⟩

/-- Fields that may not be. -/
def badF (fs : List Fd) : Bool := decide (5 < fs.length) || !namesB (fnames fs) || !riseB (sortT (fnames fs)) || anyBad fs

set_option maxHeartbeats 1000000 in
theorem badFields15 (nm : ByteArray) (a : Option Addr) (cap : Nat) (fs : List Fd) (hm : fs.length ≤ maxLen) (w : World) (hF : Flds w.heap.size w a fs) :
    Calls Tryz.prog 56 #[.agg #[.string nm, .slice a fs.length cap]] w fun e w' => e = .returned (.bool (badF fs)) ∧ Below w.heap.size w w' := by
  unfold maxLen at hm
  have b0 : Below w.heap.size w (w.alloc (.cells #[.string nm, .slice a fs.length cap] 69)) := (Below.refl _ _).alloc (Nat.le_refl _) _
  have s0 := hF.on b0
  by_cases h5 : fs.length ≤ 5
  · have hl5 := h5
    have hsl := sortT_len (fnames fs)
    have hfl := fnames_len fs
    have hS5 : (sortT (fnames fs)).length ≤ 5 := by omega
    clear hsl hfl
    have hlt : ¬ (5 : Int) < fs.length := by omega
    cases hn : namesB (fnames fs)
    · have H := hide (show badF fs = true by simp [badF, hn])
      clear hS5
      go_enter Tryz.func56, Tryz.ntmps56
      go_wp2_with fail
      refine (fields18g a cap fs hl5 _ s0).mono ?_
      rintro e w1 ⟨B1, rfl, hg1, hb1⟩
      go_wp2_with fail
      refine (allNames10 _ _ _ _ hg1).mono ?_
      rintro e w2 ⟨rfl, hb2⟩
      rw [hn]
      go_wp2_with fail
      go_ret
      have b1 := b0.trans (hb1.mono b0.size)
      exact ⟨by rw [unhide H]; rfl, b1.trans (hb2.mono b1.size)⟩
    · have hcb : ∀ w1, Below w.heap.size.succ (w.alloc (.cells #[.string nm, .slice a fs.length cap] 69)) w1 → w1.cell? ⟨w.heap.size, 1, none⟩ = some (.slice a fs.length cap) := fun w1 hb => (hb.cell (p := ⟨w.heap.size, 1, none⟩) (by simp)).trans (by simp)
      cases hr : riseB (sortT (fnames fs))
      · have H := hide (show badF fs = true by simp [badF, hr])
        go_enter Tryz.func56, Tryz.ntmps56
        go_wp2_with fail
        refine (fields18g a cap fs hl5 _ s0).mono ?_
        rintro e w1 ⟨B1, rfl, hg1, hb1⟩
        go_wp2_with fail
        refine (allNames10 _ _ _ _ hg1).mono ?_
        rintro e w2 ⟨rfl, hb2⟩
        rw [hn]
        have b2 := hb1.trans (hb2.mono hb1.size)
        have s2 := s0.on b2
        have hc2 := hcb w2 (b2.mono (by simp))
        go_wp2_with fail
        refine (fields18g a cap fs hl5 _ s2).mono ?_
        rintro e w3 ⟨B3, rfl, hg3, hb3⟩
        go_wp2_with fail
        refine (sorted26 _ _ _ _ hg3).mono ?_
        rintro e w4 ⟨a4, c4, rfl, st4, hb4⟩
        go_wp2_with fail
        refine (rise12 _ _ _ _ hS5 _ st4).mono ?_
        rintro e w5 ⟨rfl, hb5⟩
        rw [hr]
        go_wp2_with fail
        go_ret
        have b3 := b2.trans (hb3.mono b2.size)
        have b4 := b3.trans (hb4.mono b3.size)
        have b5 := b4.trans (hb5.mono b4.size)
        exact ⟨by rw [unhide H]; rfl, b0.trans (b5.mono b0.size)⟩
      · have H := hide (show badF fs = anyBad fs by simp [badF, hr, hn]; omega)
        go_enter Tryz.func56, Tryz.ntmps56
        go_wp2_with fail
        refine (fields18g a cap fs hl5 _ s0).mono ?_
        rintro e w1 ⟨B1, rfl, hg1, hb1⟩
        go_wp2_with fail
        refine (allNames10 _ _ _ _ hg1).mono ?_
        rintro e w2 ⟨rfl, hb2⟩
        rw [hn]
        have b2 := hb1.trans (hb2.mono hb1.size)
        have s2 := s0.on b2
        have hc2 := hcb w2 (b2.mono (by simp))
        go_wp2_with fail
        refine (fields18g a cap fs hl5 _ s2).mono ?_
        rintro e w3 ⟨B3, rfl, hg3, hb3⟩
        go_wp2_with fail
        refine (sorted26 _ _ _ _ hg3).mono ?_
        rintro e w4 ⟨a4, c4, rfl, st4, hb4⟩
        go_wp2_with fail
        refine (rise12 _ _ _ _ hS5 _ st4).mono ?_
        rintro e w5 ⟨rfl, hb5⟩
        rw [hr]
        have b3 := b2.trans (hb3.mono b2.size)
        have b4 := b3.trans (hb4.mono b3.size)
        have b5 := b4.trans (hb5.mono b4.size)
        have s5 := s0.on b5
        have hc5 := hcb w5 (b5.mono (by simp))
        go_wp2_with fail
        refine (contains27 a cap fs hl5 _ s5).mono ?_
        rintro e w6 ⟨rfl, hb6⟩
        go_wp2_with fail
        go_ret
        have b6 := b5.trans (hb6.mono b5.size)
        exact ⟨by rw [unhide H]; rfl, b0.trans (b6.mono b0.size)⟩
  · have H := hide (show badF fs = true by simp [badF]; omega)
    have hlt : (5 : Int) < fs.length := by omega
    go_enter Tryz.func56, Tryz.ntmps56
    go_wp2_with fail
    go_ret
    exact ⟨by rw [unhide H]; rfl, b0⟩

end Go.Proofs.YtcjpaldijngnpaaGreatDoor.Sc

namespace Go.Proofs.YtcjpaldijngnpaaGreatDoor.Sc
open Go.RowKit Go.Shelf

/-- A type: its name, its fields. -/
abbrev Ty := Txt × List Fd
abbrev ty (ts : List Ty) (j : Nat) : Ty := ts[j]?.getD default
/-- The slice at a has these types, below n₀. -/
def Typs (n₀ : Nat) (W : World) (a : Option Addr) (ts : List Ty) : Prop :=
  ts = [] ∨ ∃ b off, a = some ⟨b, off, none⟩ ∧ b < n₀ ∧ ∀ j, j < ts.length → W.cell? ⟨b, off + j * 2, none⟩ = some (.string (ty ts j).1.1) ∧
    ∃ a' c', W.cell? ⟨b, off + j * 2 + 1, none⟩ = some (.slice a' (ty ts j).2.length c') ∧ Flds n₀ W a' (ty ts j).2 ∧ (ty ts j).2.length ≤ maxLen
theorem Typs.below {n₀ : Nat} {A B : World} (h : Below n₀ A B) {a : Option Addr} {ts : List Ty} : Typs n₀ A a ts → Typs n₀ B a ts
  | .inl e => .inl e
  | .inr ⟨b, off, e, hb, hc⟩ => .inr ⟨b, off, e, hb, fun j hj => by
      obtain ⟨h1, a', c', h2, h3, h4⟩ := hc j hj
      exact ⟨(h.cell (p := ⟨b, off + j * 2, none⟩) hb).trans h1, a', c', (h.cell (p := ⟨b, off + j * 2 + 1, none⟩) hb).trans h2, h3.below h, h4⟩⟩
theorem Typs.mono {n₀ n₁ : Nat} (hn : n₀ ≤ n₁) {A : World} {a : Option Addr} {ts : List Ty} : Typs n₀ A a ts → Typs n₁ A a ts
  | .inl e => .inl e
  | .inr ⟨b, off, e, hb, hc⟩ => .inr ⟨b, off, e, Nat.lt_of_lt_of_le hb hn, fun j hj => by
      obtain ⟨h1, a', c', h2, h3, h4⟩ := hc j hj
      exact ⟨h1, a', c', h2, h3.mono hn, h4⟩⟩
theorem Typs.on {A B : World} {a : Option Addr} {ts : List Ty} (h : Typs A.heap.size A a ts) (hb : Below A.heap.size A B) : Typs B.heap.size B a ts := (h.below hb).mono hb.size
def tnames (ts : List Ty) : List Txt := ts.map fun f => f.1
theorem tnames_len (ts : List Ty) : (tnames ts).length = ts.length := by simp [tnames]
theorem Typs.names {n₀ : Nat} {W : World} {a : Option Addr} {ts : List Ty} : Typs n₀ W a ts → TNames n₀ W a (tnames ts)
  | .inl e => .inl (by rw [e]; rfl)
  | .inr ⟨b, off, e, hb, hc⟩ => .inr ⟨b, off, e, hb, fun j hj => by
      rw [tnames_len] at hj
      obtain ⟨h1, a', c', h2, _⟩ := hc j hj
      refine ⟨h1.trans ?_, _, _, _, h2⟩
      simp [ty, tx, tnames, hj]⟩

theorem types11t (a : Option Addr) (cap : Nat) (ts : List Ty) (h5 : ts.length ≤ 5) (w : World) (hT : Typs w.heap.size w a ts) :
    Calls Tryz.prog 52 #[.slice a ts.length cap] w fun e w' => ∃ Bs, e = .returned (.func (.func 78) #[] #[.pointer (some ⟨Bs, 0, none⟩)]) ∧ Gives w' 78 Bs (tnames ts) ∧ Below w.heap.size w w' := by
  have h := types11g a cap (tnames ts) (by rw [tnames_len]; exact h5) w hT.names
  rw [tnames_len] at h
  exact h

def anyBadT (ts : List Ty) : Bool := ts.any fun t => badF t.2
theorem anyBadT_snoc (ts : List Ty) (f : Ty) : anyBadT (ts ++ [f]) = (anyBadT ts || badF f.2) := by simp [anyBadT]

set_option maxHeartbeats 1000000 in
theorem index25 (a : Option Addr) (cap : Nat) (ts : List Ty) (h5 : ts.length ≤ 5) (w : World) (hF : Typs w.heap.size w a ts) :
    Calls Tryz.prog 81 #[.slice a ts.length cap, .func (.func 56) #[] #[]] w fun e w' => ∃ i : Int, e = .returned (.int .i64 i) ∧ decide (0 ≤ i) = anyBadT ts ∧ Below w.heap.size w w' := by
  rcases hF with rfl | ⟨b, off, rfl, hb, hc⟩
  · go_enter Tryz.func81, Tryz.ntmps81
    go_wp2
    go_loopw [8] (fun i wr => i = .int .i64 0 ∧ Below w.heap.size w wr) (fun _ _ => 0)
    case atStart => exact ⟨rfl, Below.refl _ _⟩
    case round =>
      obtain ⟨rfl, hb⟩ := hrel
      go_wp2
      go_ret
      exact ⟨_, rfl, by simp [anyBadT], hb⟩
  · have hc := hide hc
    go_enter Tryz.func81, Tryz.ntmps81
    go_wp2
    go_loopw [8] (fun i wr => ∃ k : Nat, k ≤ ts.length ∧ i = .int .i64 k ∧ anyBadT (ts.take k) = false ∧ Below w.heap.size w wr) (fun i _ => ts.length - (intOf i).toNat)
    case atStart => exact ⟨0, Nat.zero_le _, rfl, rfl, Below.refl _ _⟩
    case round =>
      obtain ⟨k, hk, rfl, hall, hbw⟩ := hrel
      have H := hide hall
      clear hall
      by_cases hlt : k < ts.length
      · obtain ⟨g1, a', c', g2, g3, g4⟩ := unhide hc k hlt
        have hc1 : wr.cell? ⟨b, off + k * 2, none⟩ = some (.string (ty ts k).1.1) := (hbw.cell (p := ⟨b, off + k * 2, none⟩) hb).trans g1
        have hc2 : wr.cell? ⟨b, off + k * 2 + 1, none⟩ = some (.slice a' (ty ts k).2.length c') := (hbw.cell (p := ⟨b, off + k * 2 + 1, none⟩) hb).trans g2
        have hF := g3.on hbw
        have hsucc := hide (show ts.take (k + 1) = ts.take k ++ [ty ts k] by rw [List.take_succ_eq_append_getElem hlt]; simp [ty, hlt])
        clear g1 g2 g3
        cases hbad : badF (ty ts k).2
        · go_wp2_with fail
          refine (badFields15 _ _ _ _ g4 _ hF).mono ?_
          rintro e w2 ⟨rfl, hb2⟩
          rw [hbad]
          go_wp2_with fail
          go_roundw
          case rel => exact ⟨k + 1, by omega, by go_num, by rw [unhide hsucc, anyBadT_snoc, unhide H, hbad]; rfl, hbw.trans (hb2.mono hbw.size)⟩
          case measure => simp [intOf]; omega
        · go_wp2_with fail
          refine (badFields15 _ _ _ _ g4 _ hF).mono ?_
          rintro e w2 ⟨rfl, hb2⟩
          rw [hbad]
          go_wp2_with fail
          go_ret
          refine ⟨_, rfl, ?_, hbw.trans (hb2.mono hbw.size)⟩
          have h1 : anyBadT (ts.take (k + 1)) = true := by rw [unhide hsucc, anyBadT_snoc, hbad, Bool.or_true]
          have h2 : anyBadT ts = true := by
            unfold anyBadT at h1 ⊢
            rw [List.any_eq_true] at h1 ⊢
            obtain ⟨x, hx, hb⟩ := h1
            exact ⟨x, List.mem_of_mem_take hx, hb⟩
          rw [h2]; simp
      · go_wp2
        go_ret
        refine ⟨_, rfl, ?_, hbw⟩
        have := unhide H
        rw [List.take_of_length_le (by omega)] at this
        rw [this]; rfl

set_option maxHeartbeats 400000 in
theorem contains14 (a : Option Addr) (cap : Nat) (ts : List Ty) (h5 : ts.length ≤ 5) (w : World) (hF : Typs w.heap.size w a ts) :
    Calls Tryz.prog 55 #[.slice a ts.length cap, .func (.func 56) #[] #[]] w fun e w' => e = .returned (.bool (anyBadT ts)) ∧ Below w.heap.size w w' := by
  go_enter Tryz.func55, Tryz.ntmps55
  go_wp2_with fail
  refine (index25 a cap ts h5 w hF).mono ?_
  rintro e w1 ⟨i, rfl, hi, hb1⟩
  have hi := hide hi
  go_wp2_with fail
  go_ret
  exact ⟨by rw [← unhide hi]; rfl, hb1⟩

/-- A schema that may be. -/
def isS (ts : List Ty) : Bool := decide (ts.length ≤ 5) && namesB (tnames ts) && riseB (txts (tnames ts)) && !anyBadT ts

set_option maxHeartbeats 1000000 in
theorem is6 (a : Option Addr) (cap : Nat) (ts : List Ty) (hm : ts.length ≤ maxLen) (w : World) (hF : Typs w.heap.size w a ts) :
    Calls Tryz.prog 27 #[.agg #[.slice a ts.length cap]] w fun e w' => e = .returned (.bool (isS ts)) ∧ Below w.heap.size w w' := by
  unfold maxLen at hm
  have b0 : Below w.heap.size w (w.alloc (.cells #[.slice a ts.length cap] 24)) := (Below.refl _ _).alloc (Nat.le_refl _) _
  have s0 := hF.on b0
  by_cases h5 : ts.length ≤ 5
  · have hl5 := h5
    have hS5 : (txts (tnames ts)).length ≤ 5 := by simp [txts, tnames]; exact h5
    have hle : (ts.length : Int) ≤ 5 := by omega
    cases hn : namesB (tnames ts)
    · have H := hide (show isS ts = false by simp [isS, hn])
      clear hS5
      go_enter Tryz.func27, Tryz.ntmps27
      go_wp2_with fail
      refine (types11t a cap ts hl5 _ s0).mono ?_
      rintro e w1 ⟨B1, rfl, hg1, hb1⟩
      go_wp2_with fail
      refine (allNames10 _ _ _ _ hg1).mono ?_
      rintro e w2 ⟨rfl, hb2⟩
      rw [hn]
      go_wp2_with fail
      go_ret
      have b1 := b0.trans (hb1.mono b0.size)
      exact ⟨by rw [unhide H]; rfl, b1.trans (hb2.mono b1.size)⟩
    · have hcb : ∀ w1, Below w.heap.size.succ (w.alloc (.cells #[.slice a ts.length cap] 24)) w1 → w1.cell? ⟨w.heap.size, 0, none⟩ = some (.slice a ts.length cap) := fun w1 hb => (hb.cell (p := ⟨w.heap.size, 0, none⟩) (by simp)).trans (by simp)
      cases hr : riseB (txts (tnames ts))
      · have H := hide (show isS ts = false by simp [isS, hr])
        go_enter Tryz.func27, Tryz.ntmps27
        go_wp2_with fail
        refine (types11t a cap ts hl5 _ s0).mono ?_
        rintro e w1 ⟨B1, rfl, hg1, hb1⟩
        go_wp2_with fail
        refine (allNames10 _ _ _ _ hg1).mono ?_
        rintro e w2 ⟨rfl, hb2⟩
        rw [hn]
        have b2 := hb1.trans (hb2.mono hb1.size)
        have s2 := s0.on b2
        have hc2 := hcb w2 (b2.mono (by simp))
        go_wp2_with fail
        refine (types11t a cap ts hl5 _ s2).mono ?_
        rintro e w3 ⟨B3, rfl, hg3, hb3⟩
        go_wp2_with fail
        refine (collect13 _ _ _ _ hg3).mono ?_
        rintro e w4 ⟨a4, c4, rfl, st4, hb4⟩
        go_wp2_with fail
        refine (rise12 _ _ _ _ hS5 _ st4).mono ?_
        rintro e w5 ⟨rfl, hb5⟩
        rw [hr]
        go_wp2_with fail
        go_ret
        have b3 := b2.trans (hb3.mono b2.size)
        have b4 := b3.trans (hb4.mono b3.size)
        have b5 := b4.trans (hb5.mono b4.size)
        exact ⟨by rw [unhide H]; rfl, b0.trans (b5.mono b0.size)⟩
      · have H := hide (show isS ts = !anyBadT ts by simp [isS, hr, hn]; omega)
        go_enter Tryz.func27, Tryz.ntmps27
        go_wp2_with fail
        refine (types11t a cap ts hl5 _ s0).mono ?_
        rintro e w1 ⟨B1, rfl, hg1, hb1⟩
        go_wp2_with fail
        refine (allNames10 _ _ _ _ hg1).mono ?_
        rintro e w2 ⟨rfl, hb2⟩
        rw [hn]
        have b2 := hb1.trans (hb2.mono hb1.size)
        have s2 := s0.on b2
        have hc2 := hcb w2 (b2.mono (by simp))
        go_wp2_with fail
        refine (types11t a cap ts hl5 _ s2).mono ?_
        rintro e w3 ⟨B3, rfl, hg3, hb3⟩
        go_wp2_with fail
        refine (collect13 _ _ _ _ hg3).mono ?_
        rintro e w4 ⟨a4, c4, rfl, st4, hb4⟩
        go_wp2_with fail
        refine (rise12 _ _ _ _ hS5 _ st4).mono ?_
        rintro e w5 ⟨rfl, hb5⟩
        rw [hr]
        have b3 := b2.trans (hb3.mono b2.size)
        have b4 := b3.trans (hb4.mono b3.size)
        have b5 := b4.trans (hb5.mono b4.size)
        have s5 := s0.on b5
        have hc5 := hcb w5 (b5.mono (by simp))
        go_wp2_with fail
        refine (contains14 a cap ts hl5 _ s5).mono ?_
        rintro e w6 ⟨rfl, hb6⟩
        go_wp2_with fail
        go_ret
        have b6 := b5.trans (hb6.mono b5.size)
        exact ⟨by rw [unhide H]; rfl, b0.trans (b6.mono b0.size)⟩
  · have H := hide (show isS ts = false by simp [isS]; omega)
    have hle : ¬ (ts.length : Int) ≤ 5 := by omega
    go_enter Tryz.func27, Tryz.ntmps27
    go_wp2_with fail
    go_ret
    exact ⟨by rw [unhide H]; rfl, b0⟩

end Go.Proofs.YtcjpaldijngnpaaGreatDoor.Sc

namespace Go.Proofs.YtcjpaldijngnpaaGreatDoor.Sc
open Go.RowKit Go.Shelf

theorem rise_each (ss : List ByteArray) : riseB ss = true ↔ ∀ j, j + 1 < ss.length → (ss[j]?.getD ByteArray.empty).data.toList < (ss[j + 1]?.getD ByteArray.empty).data.toList := by
  unfold riseB allP pairsTo upto lessP
  simp only [List.all_eq_true, List.mem_map, List.mem_range]
  constructor
  · intro h j hj
    have := h _ ⟨j, by omega, rfl⟩
    rw [Go.Proofs.bytesLess_eq, decide_eq_true_eq, ByteArray.toList_eq, ByteArray.toList_eq] at this
    exact this
  · rintro h _ ⟨j, hj, rfl⟩
    rw [Go.Proofs.bytesLess_eq, decide_eq_true_eq, ByteArray.toList_eq, ByteArray.toList_eq]
    exact h j (by omega)

theorem rise_pw (ss : List ByteArray) : riseB ss = true ↔ (ss.map fun s => s.data.toList).Pairwise (· < ·) := by
  rw [rise_each, List.pairwise_iff_getElem]
  constructor
  · intro h i j hi hj hij
    simp only [List.length_map] at hi hj
    simp only [List.getElem_map]
    obtain ⟨d, rfl⟩ : ∃ d, j = i + 1 + d := ⟨j - i - 1, by omega⟩
    clear hij
    induction d with
    | zero =>
      have := h i (by omega)
      simpa [hi, show i + 1 < ss.length by omega] using this
    | succ d ih =>
      have h1 := ih (by omega) (by omega)
      have h2 := h (i + 1 + d) (by omega)
      simp only [show i + 1 + d < ss.length by omega, show i + 1 + d + 1 < ss.length by omega, getElem?_pos, Option.getD_some] at h2
      exact List.lt_trans h1 h2
  · intro h j hj
    have := h j (j + 1) (by simp; omega) (by simp; omega) (by omega)
    simpa [hj, show j < ss.length by omega] using this

theorem bytes_txts (ns : List Txt) : (txts ns).map (fun s => s.data.toList) = bytesOf ns := by simp [txts, bytesOf]
theorem bytes_sortT (ns : List Txt) : (sortT ns).map (fun s => s.data.toList) = sortB ns := by simp [sortT, Function.comp_def]

theorem nodup_of_pw {l : List (List UInt8)} (h : l.Pairwise (· < ·)) : l.Nodup := h.imp fun hab e => by rw [e] at hab; exact List.lt_irrefl _ hab

theorem rise_nodup {ns : List Txt} (h : riseB (txts ns) = true) : (bytesOf ns).Nodup := by
  rw [rise_pw, bytes_txts] at h
  exact nodup_of_pw h

theorem rise_sort (ns : List Txt) : riseB (sortT ns) = true ↔ (bytesOf ns).Nodup := by
  have hp : (sortB ns).Perm (bytesOf ns) := List.mergeSort_perm _ _
  rw [rise_pw, bytes_sortT, ← hp.nodup_iff]
  constructor
  · exact nodup_of_pw
  · intro h
    have hs : (sortB ns).Pairwise (fun a b => decide (a ≤ b) = true) := List.pairwise_mergeSort (fun a b c h1 h2 => by
      rw [decide_eq_true_eq] at *
      exact List.le_trans h1 h2) (fun a b => by
      rcases List.le_total a b with h | h
      · simp [h]
      · simp [h]) _
    refine (hs.and h).imp ?_
    rintro a b ⟨h1, h2⟩
    rw [decide_eq_true_eq] at h1
    rcases Std.lt_trichotomy (α := List UInt8) a b with h3 | h3 | h3
    · exact h3
    · exact absurd h3 h2
    · exact absurd h3 h1

theorem eqT_iff (nm : ByteArray) (x : Txt) : eqT nm x = true ↔ x.1.data.toList = nm.data.toList := by
  unfold eqT
  rw [beq_iff_eq, ByteArray.toList_eq, ByteArray.toList_eq]

/-- In a row without doubles each name stands where it stands. -/
theorem place_self {ns : List Txt} (h : (bytesOf ns).Nodup) (k : Nat) (hk : k < ns.length) : placeN ns (tx ns k) = some k := by
  unfold placeN
  rw [List.findIdx?_eq_some_iff_getElem]
  refine ⟨hk, ?_, ?_⟩
  · rw [eqT_iff]; simp [tx, hk]
  · intro j hj
    rw [eqT_iff]
    intro e
    have hn := List.pairwise_iff_getElem.1 h j k (by simp [bytesOf]; omega) (by simp [bytesOf]; omega) hj
    apply hn
    simp only [bytesOf, List.getElem_map]
    rw [e]
    simp [tx, hk]

/-- A name is found just where one of the row has its bytes. -/
theorem place_isSome (ns : List Txt) (nm : ByteArray) : (placeN ns nm).isSome = ns.any (eqT nm) := by
  simp [placeN, List.findIdx?_isSome]

end Go.Proofs.YtcjpaldijngnpaaGreatDoor.Sc
