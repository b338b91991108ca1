/-
  What the document's Apply answers, whatever the change (package pasternref1, layer 4): the same as the program's; for every schema that may be and every change, in whatever world; nothing that lay is turned.
-/
import Derived.Test.YtnfmhcddfjgcmaaDoorRefApp1
import Derived.Test.YtnfmhcddfjgcmaaDoorRefApp2
import Derived.Test.YtnfmhcddfjgcmaaDoorRefApp3
import Derived.Test.YtnfmhcddfjgcmaaDoorRefApp4
import Derived.Test.YtnfmhcddfjgcmaaDoorRefApp5
import Derived.Test.YtnfmhcddfjgcmaaDoorRefCopied
import Derived.Test.YtnfmhcddfjgcmaaDoorRefAdd
import Derived.Test.YtnfmhcddfjgcmaaDoorShift
import Derived.Test.YtnfmhcddfjgcmaaDoorCp
namespace Go.Proofs.YtnfmhcddfjgcmaaDoor
open Go.RowKit Go.Shelf

set_option maxRecDepth 100000 in
set_option maxHeartbeats 8000000 in
theorem refApply_0 (a : Option Addr) (cap : Nat) (ts : List Ty) (k : Int) (t f o : Txt) (dk dn : Int) (ds : Txt) (hkk : k < 1 ∨ 5 < k) (hS : Sch ts) (w : World) (hT : Typs w.heap.size w a ts) :
    Calls Tryd.prog 7 #[.agg #[.slice a ts.length cap], (⟨k, t, f, o, dk, dn, ds⟩ : Ch).v] w fun e w' => ∃ a' c', e = .returned (.tuple #[.agg #[.slice a' (appT ts ⟨k, t, f, o, dk, dn, ds⟩).length c'], .int .i64 (refE ts ⟨k, t, f, o, dk, dn, ds⟩)]) ∧ Typs w'.heap.size w' a' (appT ts ⟨k, t, f, o, dk, dn, ds⟩) ∧ Below w.heap.size w w' := by
  have h5 := hS.1
  have hk5 : ∀ k, (ty ts k).2.length ≤ 5 := fun k => by
    by_cases hk : k < ts.length
    · exact (hS.2 k hk).2.2.1
    · simp only [ty, List.getElem?_eq_none (Nat.le_of_not_lt hk), Option.getD_none]
      exact Nat.zero_le _
  obtain ⟨W0, hW0⟩ : ∃ W0, W0 = ((w.alloc (.cells #[.slice a ts.length cap] 24)).alloc (.cells #[.int .i64 k, .string t.1, .string f.1, .string o.1, .int .i64 dk, .int .i64 dn, .string ds.1] 28)).alloc (.cells #[.slice none 0 0] 24) := ⟨_, rfl⟩
  have e0 : W0.heap.size = w.heap.size + 3 := by rw [hW0]; simp
  have b0 : Below w.heap.size w W0 := by rw [hW0]; exact (((Below.refl _ _).alloc (Nat.le_refl _) _).alloc (by simp) _).alloc (by simp; omega) _
  have x2 : Box W0 w.heap.size 24 #[.slice a ts.length cap] := by
    rw [hW0]; exact ((Box.new w 24 #[.slice a ts.length cap]).alloc _).alloc _
  have x3 : Box W0 (w.heap.size + 1) 28 #[.int .i64 k, .string t.1, .string f.1, .string o.1, .int .i64 dk, .int .i64 dn, .string ds.1] := by
    have := Box.new (w.alloc (.cells #[.slice a ts.length cap] 24)) 28 #[.int .i64 k, .string t.1, .string f.1, .string o.1, .int .i64 dk, .int .i64 dn, .string ds.1]
    simp only [World.size_alloc] at this
    rw [hW0]; exact this.alloc _
  have x4 : Box W0 (w.heap.size + 1 + 1) 24 #[.slice none 0 0] := by
    have := Box.new ((w.alloc (.cells #[.slice a ts.length cap] 24)).alloc (.cells #[.int .i64 k, .string t.1, .string f.1, .string o.1, .int .i64 dk, .int .i64 dn, .string ds.1] 28)) 24 #[.slice none 0 0]
    simp only [World.size_alloc] at this
    rw [hW0]; exact this
  have T0 := hT.on b0
  have hW0' := hide hW0
  clear hW0
  obtain ⟨R, hR⟩ : ∃ R, R = refE ts ⟨k, t, f, o, dk, dn, ds⟩ := ⟨_, rfl⟩
  obtain ⟨A, hA⟩ : ∃ A, A = appT ts ⟨k, t, f, o, dk, dn, ds⟩ := ⟨_, rfl⟩
  rw [← hR, ← hA]
  replace hR := hide hR
  replace hA := hide hA
  obtain ⟨FB, hFB⟩ : ∃ FB, FB = formedB ⟨k, t, f, o, dk, dn, ds⟩ := ⟨_, rfl⟩
  have hf0 : FB = false := by rw [hFB]; simp [formedB, bareB, show k ≠ 1 by omega, show k ≠ 2 by omega, show k ≠ 3 by omega, show k ≠ 4 by omega, show k ≠ 5 by omega]
  have hFB' := hide hFB
  clear hFB
  go_enter Tryd.func7, Tryd.ntmps7
  go_upto_region 1 with fail
  rw [← unhide hW0']
  obtain ⟨hc0, hc1, hc2, hc3, hc4, hc5, hc6⟩ := x3.seven
  go_cut [57] (fun g wx => g = .bool (!FB) ∧ wx = W0)
  case first =>
    clear x2 x4 T0 b0 hT hS
    have cN : Hid (∀ W, Calls Tryd.prog 18 #[.string t.1] W fun e w' => e = .returned (.bool (nameB t.1)) ∧ w' = W) := fun W => refName_c t.1 W t.2
    by_cases hk1 : k < 1
    · have hf : FB = false := by rw [unhide hFB']; simp [formedB, bareB, show k ≠ 1 by omega, show k ≠ 2 by omega, show k ≠ 3 by omega, show k ≠ 4 by omega, show k ≠ 5 by omega]
      subst hf
      go_wp2_with fail
      go_meet
      case rel => exact ⟨rfl, rfl⟩
    by_cases hk5 : 5 < k
    · have hf : FB = false := by rw [unhide hFB']; simp [formedB, bareB, show k ≠ 1 by omega, show k ≠ 2 by omega, show k ≠ 3 by omega, show k ≠ 4 by omega, show k ≠ 5 by omega]
      subst hf
      go_wp2_with fail
      go_meet
      case rel => exact ⟨rfl, rfl⟩
    exfalso
    omega
  case rest =>
    obtain ⟨rfl, rfl⟩ := hcut
    -- an error: the schema as it was
    have ret := hide (show ∀ (n : Int), refE ts ⟨k, t, f, o, dk, dn, ds⟩ = n → n ≠ 0 → A = ts ∧ R = n from fun n h h0 => by rw [unhide hA, unhide hR]; simp [appT, h, h0])
    cases FB with
    | false =>
      have hr : refE ts ⟨k, t, f, o, dk, dn, ds⟩ = 10 := by simp [refE, ← unhide hFB']
      obtain ⟨eA, eR⟩ := unhide ret 10 hr (by decide)
      clear hr ret hA hR
      replace eA := hide eA
      replace eR := hide eR
      have hs := x2.one.1
      obtain ⟨hp0, hp1⟩ := x4.one
      go_wp2_with fail
      have u4 := (x4.set 0 (.slice a ts.length cap)).one.1
      have bb := b0.setCell (p := ⟨w.heap.size + 1 + 1, 0, none⟩) (by simp only; omega) (.slice a ts.length cap)
      exact bodyPost_ret (v := .tuple #[.agg #[.slice a ts.length cap], .int .i64 10]) (by simp [results, Tryd.results7, go_sem, u4]) rfl ⟨a, ⟨cap, by rw [unhide eA, unhide eR]⟩, by rw [unhide eA]; exact (hT.below bb).mono bb.size, bb⟩
    | true => cases hf0

theorem refApply_c (a : Option Addr) (cap : Nat) (ts : List Ty) (c : Ch) (hS : Sch ts) (w : World) (hT : Typs w.heap.size w a ts) :
    Calls Tryd.prog 7 #[.agg #[.slice a ts.length cap], c.v] w fun e w' => ∃ a' c', e = .returned (.tuple #[.agg #[.slice a' (appT ts c).length c'], .int .i64 (refE ts c)]) ∧ Typs w'.heap.size w' a' (appT ts c) ∧ Below w.heap.size w w' := by
  obtain ⟨k, t, f, o, dk, dn, ds⟩ := c
  by_cases h : k < 1 ∨ 5 < k
  · exact refApply_0 a cap ts k t f o dk dn ds h hS w hT
  · have hk : k = 1 ∨ k = 2 ∨ k = 3 ∨ k = 4 ∨ k = 5 := by omega
    rcases hk with rfl | rfl | rfl | rfl | rfl
    · exact refApply_1 a cap ts t f o dk dn ds hS w hT
    · exact refApply_2 a cap ts t f o dk dn ds hS w hT
    · exact refApply_3 a cap ts t f o dk dn ds hS w hT
    · exact refApply_4 a cap ts t f o dk dn ds hS w hT
    · exact refApply_5 a cap ts t f o dk dn ds hS w hT

end Go.Proofs.YtnfmhcddfjgcmaaDoor
