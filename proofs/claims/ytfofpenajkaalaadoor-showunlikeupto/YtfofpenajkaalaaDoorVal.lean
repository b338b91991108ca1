/-
  What the plain functions of package value answer (layer 1): has of the three spans, allIn, isText, Is, Same, Zero, Name: each for every argument, in whatever world; nothing that lay is turned.
-/
import Derived.Test.YtfofpenajkaalaaDoorRows
import Derived.WalkKit
import Derived.WalkSpells
import Derived.WalkLawsBesides
import Derived.Deep.RegionWith
import Derived.Deep.QuietTactic
import Derived.BigQuiet
namespace Go.Proofs.YtfofpenajkaalaaDoor
open Go.RowKit

theorem hide {p : Prop} (h : p) : Hid p := h
theorem unhide {p : Prop} (h : Hid p) : p := h
theorem bcell {W w1 : World} (hb : Below W.heap.size W w1) : (∀ b o, b < W.heap.size → w1.cell? ⟨b, o, none⟩ = W.cell? ⟨b, o, none⟩) ∧ (∀ b o, b < W.heap.size → w1.frozen? ⟨b, o, none⟩ = W.frozen? ⟨b, o, none⟩) :=
  ⟨fun b o h => hb.cell (p := ⟨b, o, none⟩) h, fun b o h => hb.frozen (p := ⟨b, o, none⟩) h⟩

/-- low to high, both in it. -/
def inB (lo hi x : Int) : Bool := decide (lo ≤ x) && decide (x ≤ hi)

set_option maxHeartbeats 400000 in
theorem has42 (lo hi x : Int) (w : World) :
    Calls Tryd.prog 36 #[.agg #[.int .i64 lo, .int .i64 hi], .int .i64 x] w fun e w' => e = .returned (.bool (inB lo hi x)) ∧ Below w.heap.size w w' := by
  go_enter Tryd.func36, Tryd.ntmps36
  go_wp2
  all_goals (go_ret; refine ⟨?_, (Below.refl _ _).alloc (Nat.le_refl _) _⟩; simp_all [inB]; try omega)

set_option maxHeartbeats 400000 in
theorem has31 (lo hi x : Int) (w : World) :
    Calls Tryd.prog 69 #[.agg #[.int .i64 lo, .int .i64 hi], .int .i64 x] w fun e w' => e = .returned (.bool (inB lo hi x)) ∧ Below w.heap.size w w' := by
  go_enter Tryd.func69, Tryd.ntmps69
  go_wp2
  all_goals (go_ret; refine ⟨?_, (Below.refl _ _).alloc (Nat.le_refl _) _⟩; simp_all [inB]; try omega)

set_option maxHeartbeats 400000 in
theorem has38 (lo hi x : Int) (w : World) :
    Calls Tryd.prog 72 #[.agg #[.int .u8 lo, .int .u8 hi], .int .u8 x] w fun e w' => e = .returned (.bool (inB lo hi x)) ∧ Below w.heap.size w w' := by
  go_enter Tryd.func72, Tryd.ntmps72
  go_wp2
  all_goals (go_ret; refine ⟨?_, (Below.refl _ _).alloc (Nat.le_refl _) _⟩; simp_all [inB]; try omega)

/-- All bytes from lo to hi. -/
def allB (lo hi : Int) (l : List UInt8) : Bool := l.all fun c => inB lo hi c.toNat

theorem take_snoc (s : ByteArray) (k : Nat) (h : k < s.size) : s.data.toList.take (k + 1) = s.data.toList.take k ++ [s[k]] := by
  rw [List.take_succ_eq_append_getElem (by simpa using h)]; rfl
theorem allB_snoc (lo hi : Int) (l : List UInt8) (c : UInt8) : allB lo hi (l ++ [c]) = (allB lo hi l && inB lo hi c.toNat) := by simp [allB]
theorem allB_no (lo hi : Int) (s : ByteArray) (k : Nat) (h : k < s.size) (hn : inB lo hi s[k].toNat = false) : allB lo hi s.data.toList = false := by
  simp only [allB, List.all_eq_false]
  exact ⟨s[k], by simp [ByteArray.getElem_eq_getElem_data], by simp [hn]⟩

set_option maxHeartbeats 400000 in
theorem allIn32 (lo hi : Int) (s : ByteArray) (w : World) (hs : s.size ≤ maxLen) :
    Calls Tryd.prog 56 #[.string s, .agg #[.int .u8 lo, .int .u8 hi]] w fun e w' => e = .returned (.bool (allB lo hi s.data.toList)) ∧ Below w.heap.size w w' := by
  unfold maxLen at hs
  go_enter Tryd.func56, Tryd.ntmps56
  go_wp2
  go_loopw [8] (fun i wr => ∃ k : Nat, k ≤ s.size ∧ i = .int .i64 k ∧ allB lo hi (s.data.toList.take k) = true ∧ Below (w.heap.size + 1) (w.alloc (.cells #[.int .u8 lo, .int .u8 hi] 88)) wr) (fun i _ => s.size - (intOf i).toNat)
  case atStart => exact ⟨0, Nat.zero_le _, rfl, rfl, Below.refl _ _⟩
  case round =>
    obtain ⟨k, hk, rfl, hall, hb⟩ := hrel
    have H := hide hall
    clear hall
    have hc : wr.cell? ⟨w.heap.size, 0, none⟩ = some (.int .u8 lo) := (hb.cell (p := ⟨w.heap.size, 0, none⟩) (by simp)).trans (by simp)
    have hc1 : wr.cell? ⟨w.heap.size, 1, none⟩ = some (.int .u8 hi) := (hb.cell (p := ⟨w.heap.size, 1, none⟩) (by simp)).trans (by simp)
    by_cases hlt : k < s.size
    · cases hin : inB lo hi s[k].toNat
      all_goals have Hin := hide hin
      all_goals clear hin
      · go_wp2
        go_region_with (go_at_call 72; refine (has38 lo hi _ _).mono ?_; rintro e w2 ⟨rfl, hb2⟩; rw [unhide Hin])
        all_goals go_wp2
        all_goals go_ret
        all_goals exact ⟨by rw [allB_no lo hi s k hlt (unhide Hin)]; rfl, ((Below.refl _ _).alloc (Nat.le_refl _) _).trans ((hb.drew.mono (by omega)).trans (hb2.mono (by have := hb.size; simp at this ⊢; omega)))⟩
      · have Hs := hide (show allB lo hi (s.data.toList.take (k + 1)) = true by rw [take_snoc s k hlt, allB_snoc, unhide H, unhide Hin]; rfl)
        go_wp2
        go_region_with (go_at_call 72; refine (has38 lo hi _ _).mono ?_; rintro e w2 ⟨rfl, hb2⟩; rw [unhide Hin])
        all_goals go_wp2
        all_goals
          go_roundw
          case rel => exact ⟨k + 1, by omega, by go_num, unhide Hs, hb.drew.trans (hb2.mono (by have := hb.size; simp at this ⊢; omega))⟩
          case measure => simp [intOf]; omega
    · go_wp2
      go_ret
      have e : allB lo hi s.data.toList = true := by
        have := unhide H
        rwa [List.take_of_length_le (by simp; omega)] at this
      exact ⟨by rw [e]; rfl, ((Below.refl _ _).alloc (Nat.le_refl _) _).trans (hb.mono (by omega))⟩

def isTextB (s : ByteArray) : Bool := decide (s.size ≤ 16) && allB 32 126 s.data.toList

set_option maxHeartbeats 400000 in
theorem isText41 (s : ByteArray) (w : World) (hs : s.size ≤ maxLen) :
    Calls Tryd.prog 35 #[.string s] w fun e w' => e = .returned (.bool (isTextB s)) ∧ Below w.heap.size w w' := by
  by_cases h : s.size ≤ 16
  · have H := hide (show isTextB s = allB 32 126 s.data.toList by simp [isTextB, h])
    go_enter Tryd.func35, Tryd.ntmps35
    go_wp2_with (go_at_call 56; refine (allIn32 _ _ _ _ hs).mono ?_; rintro e w2 ⟨rfl, hb2⟩)
    go_ret
    exact ⟨by rw [unhide H]; rfl, hb2⟩
  · have H := hide (show isTextB s = false by simp [isTextB, h])
    go_enter Tryd.func35, Tryd.ntmps35
    go_wp2
    go_ret
    exact ⟨by rw [unhide H]; rfl, Below.refl _ _⟩

def nameB (s : ByteArray) : Bool := (decide (1 ≤ s.size) && decide (s.size ≤ 8)) && allB 97 122 s.data.toList

set_option maxHeartbeats 400000 in
theorem name21 (s : ByteArray) (w : World) (hs : s.size ≤ maxLen) :
    Calls Tryd.prog 50 #[.string s] w fun e w' => e = .returned (.bool (nameB s)) ∧ Below w.heap.size w w' := by
  cases h : inB 1 8 s.size
  · have H := hide (show nameB s = false by simp [inB] at h; simp [nameB]; omega)
    go_enter Tryd.func50, Tryd.ntmps50
    go_wp2_with (go_at_call 69; refine (has31 _ _ _ _).mono ?_; rintro e w2 ⟨rfl, hb2⟩; rw [h])
    go_ret
    exact ⟨by rw [unhide H]; rfl, hb2⟩
  · have H := hide (show nameB s = allB 97 122 s.data.toList by simp [inB] at h; simp [nameB]; omega)
    go_enter Tryd.func50, Tryd.ntmps50
    go_wp2_with (first | (go_at_call 69; refine (has31 _ _ _ _).mono ?_; rintro e w2 ⟨rfl, hb2⟩; rw [h]) | (go_at_call 56; refine (allIn32 _ _ _ _ hs).mono ?_; rintro e w3 ⟨rfl, hb3⟩))
    go_ret
    exact ⟨by rw [unhide H]; rfl, hb2.trans (hb3.mono hb2.size)⟩





/-- What may be a value. -/
def isB (k n : Int) (s : ByteArray) : Bool :=
  if k = 1 then s.toList.isEmpty else if k = 2 then decide (n = 0) && isTextB s else if k = 3 then inB 0 1 n && s.toList.isEmpty else false

set_option maxHeartbeats 400000 in
theorem is36 (k n : Int) (s : ByteArray) (w : World) (hs : s.size ≤ maxLen) :
    Calls Tryd.prog 19 #[.agg #[.int .i64 k, .int .i64 n, .string s]] w fun e w' => e = .returned (.bool (isB k n s)) ∧ Below w.heap.size w w' := by
  by_cases h1 : k = 1
  · subst h1
    have H := hide (show isB 1 n s = s.toList.isEmpty by simp [isB])
    go_enter Tryd.func19, Tryd.ntmps19
    go_wp2
    go_ret
    exact ⟨by rw [unhide H]; rfl, (Below.refl _ _).alloc (Nat.le_refl _) _⟩
  by_cases h2 : k = 2
  · subst h2
    by_cases hn : n = 0
    · subst hn
      have H := hide (show isB 2 0 s = isTextB s by simp [isB])
      go_enter Tryd.func19, Tryd.ntmps19
      go_wp2_with (go_at_call 35; refine (isText41 _ _ hs).mono ?_; rintro e w2 ⟨rfl, hb2⟩)
      go_ret
      exact ⟨by rw [unhide H]; rfl, ((Below.refl _ _).alloc (Nat.le_refl _) _).trans (hb2.mono (by simp))⟩
    · have H := hide (show isB 2 n s = false by simp [isB, hn])
      have hn' : (n == 0) = false := by simp [hn]
      clear hn h1
      go_enter Tryd.func19, Tryd.ntmps19
      go_wp2
      go_ret
      exact ⟨by rw [unhide H]; rfl, (Below.refl _ _).alloc (Nat.le_refl _) _⟩
  by_cases h3 : k = 3
  · subst h3
    cases hn : inB 0 1 n
    · have H := hide (show isB 3 n s = false by simp [isB, hn])
      clear h1 h2
      go_enter Tryd.func19, Tryd.ntmps19
      go_wp2_with (go_at_call 36; refine (has42 _ _ _ _).mono ?_; rintro e w2 ⟨rfl, hb2⟩; rw [hn])
      go_ret
      exact ⟨by rw [unhide H]; rfl, ((Below.refl _ _).alloc (Nat.le_refl _) _).trans (hb2.mono (by simp))⟩
    · have H := hide (show isB 3 n s = s.toList.isEmpty by simp [isB, hn])
      clear h1 h2
      go_enter Tryd.func19, Tryd.ntmps19
      go_wp2_with (go_at_call 36; refine (has42 _ _ _ _).mono ?_; rintro e w2 ⟨rfl, hb2⟩; rw [hn]; have hc2 : w2.cell? ⟨w.heap.size, 2, none⟩ = some (.string s) := (hb2.cell (p := ⟨w.heap.size, 2, none⟩) (by simp)).trans (by simp))
      go_ret
      exact ⟨by rw [unhide H]; rfl, ((Below.refl _ _).alloc (Nat.le_refl _) _).trans (hb2.mono (by simp))⟩
  · have H := hide (show isB k n s = false by simp [isB, h1, h2, h3])
    have h1' : (k == 1) = false := by simp [h1]
    have h2' : (k == 2) = false := by simp [h2]
    have h3' : (k == 3) = false := by simp [h3]
    clear h1 h2 h3
    go_enter Tryd.func19, Tryd.ntmps19
    go_wp2
    go_ret
    exact ⟨by rw [unhide H]; rfl, (Below.refl _ _).alloc (Nat.le_refl _) _⟩

end Go.Proofs.YtfofpenajkaalaaDoor

