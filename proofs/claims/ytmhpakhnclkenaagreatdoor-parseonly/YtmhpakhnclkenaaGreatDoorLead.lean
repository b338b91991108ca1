/-
  has and lead of package word's spans: for every argument, in whatever world; nothing that lay is turned.
-/
import Derived.Test.YtmhpakhnclkenaaGreatDoorWords
import Derived.Test.YtmhpakhnclkenaaGreatDoorBox
namespace Go.Proofs.YtmhpakhnclkenaaGreatDoor
open Go.RowKit

set_option maxHeartbeats 400000 in
theorem has31_c (lo hi x : Int) (w : World) :
    Calls Tryz.prog 118 #[.agg #[.int .u8 lo, .int .u8 hi], .int .u8 x] w fun e w' => e = .returned (.bool (inB lo hi x)) ∧ Below w.heap.size w w' := by
  go_enter Tryz.func118, Tryz.ntmps118
  go_wp2
  all_goals (go_ret; refine ⟨?_, (Below.refl _ _).alloc (Nat.le_refl _) _⟩; simp_all [inB]; try omega)

theorem leadL_whole {lo hi : Int} {l : List UInt8} (h : allB lo hi l = true) : leadL lo hi l = l := by
  induction l with
  | nil => rfl
  | cons c r ih =>
    simp only [allB, List.all_cons, Bool.and_eq_true] at h
    simp only [leadL, List.takeWhile_cons, h.1, if_true]
    exact congrArg _ (ih h.2)
theorem leadL_at {lo hi : Int} {s : ByteArray} {k : Nat} (h : k < s.size) (hall : allB lo hi (s.data.toList.take k) = true) (hn : inB lo hi s[k].toNat = false) : leadL lo hi s.data.toList = s.data.toList.take k := by
  have e : s.data.toList = s.data.toList.take k ++ s[k] :: s.data.toList.drop (k + 1) := by
    rw [show s[k] = s.data.toList[k]'(by simpa using h) by simp [ByteArray.getElem_eq_getElem_data], List.getElem_cons_drop, List.take_append_drop]
  generalize hp : s.data.toList.take k = p at hall e
  rw [e]
  simp only [leadL]
  rw [List.takeWhile_append_of_pos (by simpa [allB] using hall), List.takeWhile_cons, hn]
  simp

theorem ext_take (s : ByteArray) (k : Nat) : s.extract 0 k = ⟨(s.data.toList.take k).toArray⟩ := by
  have := ext_list s 0 k
  rw [List.drop_zero] at this
  rw [← this]
theorem ext_eq (s : ByteArray) (a b : Nat) : s.extract a b = ⟨((s.data.toList.take b).drop a).toArray⟩ := by rw [← ext_list]

set_option maxHeartbeats 400000 in
theorem lead_c (lo hi : Int) (s : ByteArray) (w : World) (hs : s.size ≤ maxLen) :
    Calls Tryz.prog 140 #[.agg #[.int .u8 lo, .int .u8 hi], .string s] w fun e w' => e = .returned (.string ⟨(leadL lo hi s.data.toList).toArray⟩) ∧ Below w.heap.size w w' := by
  unfold maxLen at hs
  go_enter Tryz.func140, Tryz.ntmps140
  go_wp2
  go_loopw [8] (fun i wr => ∃ k : Nat, k ≤ s.size ∧ i = .int .i64 k ∧ allB lo hi (s.data.toList.take k) = true ∧ Below (w.heap.size + 1) (w.alloc (.cells #[.int .u8 lo, .int .u8 hi] 188)) wr) (fun i _ => s.size - (intOf i).toNat)
  case atStart => exact ⟨0, Nat.zero_le _, rfl, rfl, Below.refl _ _⟩
  case round =>
    obtain ⟨k, hk, rfl, hall, hb⟩ := hrel
    have H := hide hall
    clear hall
    have hc : wr.cell? ⟨w.heap.size, 0, none⟩ = some (.int .u8 lo) := (hb.cell (p := ⟨w.heap.size, 0, none⟩) (by simp)).trans (by simp)
    have hc1 : wr.cell? ⟨w.heap.size, 1, none⟩ = some (.int .u8 hi) := (hb.cell (p := ⟨w.heap.size, 1, none⟩) (by simp)).trans (by simp)
    by_cases hlt : k < s.size
    · cases hin : inB lo hi s[k].toNat
      all_goals have Hin := hide hin
      all_goals clear hin
      · have Hl := hide (leadL_at hlt (unhide H) (unhide Hin))
        go_wp2
        go_region_with (go_at_call 118; refine (has31_c lo hi _ _).mono ?_; rintro e w2 ⟨rfl, hb2⟩; rw [unhide Hin])
        all_goals go_wp2
        all_goals go_ret
        all_goals exact ⟨by rw [unhide Hl, ← ext_take]; rfl, ((Below.refl _ _).alloc (Nat.le_refl _) _).trans ((hb.drew.mono (by omega)).trans (hb2.mono (by have := hb.size; simp at this ⊢; omega)))⟩
      · have Hs := hide (show allB lo hi (s.data.toList.take (k + 1)) = true by rw [take_snoc s k hlt, allB_snoc, unhide H, unhide Hin]; rfl)
        go_wp2
        go_region_with (go_at_call 118; refine (has31_c lo hi _ _).mono ?_; rintro e w2 ⟨rfl, hb2⟩; rw [unhide Hin])
        all_goals go_wp2
        all_goals
          go_roundw
          case rel => exact ⟨k + 1, by omega, by go_num, unhide Hs, hb.drew.trans (hb2.mono (by have := hb.size; simp at this ⊢; omega))⟩
          case measure => simp [intOf]; omega
    · go_wp2
      go_ret
      have e : leadL lo hi s.data.toList = s.data.toList := by
        have := unhide H
        rw [List.take_of_length_le (by simp; omega)] at this
        exact leadL_whole this
      exact ⟨by rw [e]; rfl, ((Below.refl _ _).alloc (Nat.le_refl _) _).trans (hb.mono (by omega))⟩

/-- The array of the signs. -/
def signsV : Array Value := #[.string ⟨#[33, 61]⟩, .string ⟨#[60, 61]⟩, .string ⟨#[40]⟩, .string ⟨#[41]⟩, .string ⟨#[91]⟩, .string ⟨#[93]⟩, .string ⟨#[58]⟩, .string ⟨#[124]⟩, .string ⟨#[44]⟩, .string ⟨#[43]⟩, .string ⟨#[33]⟩, .string ⟨#[46]⟩, .string ⟨#[45]⟩, .string ⟨#[42]⟩, .string ⟨#[61]⟩, .string ⟨#[60]⟩]

/-- The package variables that package word reads, as they stand from the start on: the four spans, the signs; and that strconv's ErrRange holds an error. -/
structure Vars (w : World) : Prop where
  size : 15 ≤ w.heap.size
  s0 : w.cell? ⟨1, 0, none⟩ = some (.int .u8 97)
  s1 : w.cell? ⟨1, 1, none⟩ = some (.int .u8 122)
  g0 : w.cell? ⟨2, 0, none⟩ = some (.int .u8 65)
  g1 : w.cell? ⟨2, 1, none⟩ = some (.int .u8 90)
  d0 : w.cell? ⟨4, 0, none⟩ = some (.int .u8 48)
  d1 : w.cell? ⟨4, 1, none⟩ = some (.int .u8 57)
  p0 : w.cell? ⟨6, 0, none⟩ = some (.int .u8 32)
  p1 : w.cell? ⟨6, 1, none⟩ = some (.int .u8 126)
  sg : ∀ i, i < 16 → w.cell? ⟨5, i, none⟩ = signsV[i]?
  er : ∃ te pe, w.cell? ⟨12, 0, none⟩ = some (.iface te pe)
theorem Vars.on {A W : World} {n : Nat} (h : Vars A) (hb : Below n A W) (hn : 15 ≤ n) : Vars W := by
  have e : ∀ b o, b < 15 → W.cell? ⟨b, o, none⟩ = A.cell? ⟨b, o, none⟩ := fun b o hlt => hb.cell (p := ⟨b, o, none⟩) (by show b < n; omega)
  refine ⟨Nat.le_trans h.size hb.size, ?_, ?_, ?_, ?_, ?_, ?_, ?_, ?_, fun i hi => ?_, ?_⟩
  all_goals rw [e _ _ (by decide)]
  all_goals first | exact h.s0 | exact h.s1 | exact h.g0 | exact h.g1 | exact h.d0 | exact h.d1 | exact h.p0 | exact h.p1 | exact h.sg i hi | exact h.er
theorem Vars.alloc {W : World} (h : Vars W) (o : Obj) : Vars (W.alloc o) := h.on ((Below.refl _ W).alloc (Nat.le_refl _) o) h.size
theorem Vars.drew {W : World} (h : Vars W) : Vars W.drew := ⟨h.size, h.s0, h.s1, h.g0, h.g1, h.d0, h.d1, h.p0, h.p1, h.sg, h.er⟩

end Go.Proofs.YtmhpakhnclkenaaGreatDoor
