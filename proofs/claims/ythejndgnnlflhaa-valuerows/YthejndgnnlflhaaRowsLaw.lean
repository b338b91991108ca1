/-
  Proved: for every row of texts and every text the call of ValueRows returns true, and they read behind it as they read before; no condition.
-/
import Derived.Test.YthejndgnnlflhaaRefWith
import Derived.ProofKit
import Derived.OpenShut
namespace Go.Proofs.Ythejndgnnlflhaa.valueRows
open Go.ChangeShapes Go.WideShapes Go.ChangeAt Go.RowKit Go.WideMaps Go.WideElems
open Go.ChangeMaps (open_string)

theorem own : ownKnob Try.prog.godebug = none := by kernel_rfl
theorem laidOut : laidOutB Try.prog = true := by kernel_rfl

theorem strs_form {n₀ : Nat} {W : World} {v : Value} {ss : List ByteArray} (h : Strs n₀ W v ss) : ∃ a l c, v = .slice a l c := by
  rcases h with ⟨_, _, rfl, _⟩ | ⟨b, off, c, rfl, _⟩
  · exact ⟨_, _, _, rfl⟩
  · exact ⟨_, _, _, rfl⟩

theorem with18s (a : Option Addr) (len cap : Nat) (x : ByteArray) (ss : List ByteArray) (hreach : ss.length * 16 ≤ 140737488351232) (w : World) (hI : Strs w.heap.size w (.slice a len cap) ss) :
    Calls Try.prog 18 #[.slice a len cap, .string x] w fun e w' => ∃ a' l' c', e = .returned (.slice a' l' c') ∧ Strs w'.heap.size w' (.slice a' l' c') (ins x ss) ∧ Below w.heap.size w w' := by
  refine (with18 a len cap x ss hreach w hI).mono ?_
  rintro e w' ⟨v, rfl, ho, hb⟩
  rw [wAll_ins] at ho
  have hs := strs_of_owns ho
  obtain ⟨a', l', c', rfl⟩ := strs_form hs
  exact ⟨a', l', c', rfl, hs, hb⟩

theorem Strs.on {A B : World} {v : Value} {ss : List ByteArray} (h : Strs A.heap.size A v ss) (hb : Below A.heap.size A B) : Strs B.heap.size B v ss := (h.below hb).mono hb.size

set_option maxHeartbeats 2000000 in
theorem walk (a : Option Addr) (len cap : Nat) (x : ByteArray) (ss : List ByteArray) (w : World) (hI : Strs w.heap.size w (.slice a len cap) ss) (hcap : len ≤ cap) :
    Calls Try.prog 4 #[.slice a len cap, .string x] w fun e w' => e = .returned (.bool true) ∧ Below w.heap.size w w' := by
  have hlen := hI.len
  by_cases h40 : 40 < len
  · have h40' : (40 : Int) < len := by omega
    clear hlen hI
    go_enter Try.func4, Try.ntmps4
    go_wp2_with fail
    refine (known8 _).mono ?_
    rintro e w1 ⟨rfl, hb1⟩
    go_wp2_with fail
    go_ret
    exact ⟨rfl, hb1⟩
  · have h40' : ¬ (40 : Int) < len := by omega
    have hlb : (len : Int) ≤ 40 := by omega
    have hs40 : ss.length ≤ 40 := by omega
    have hil := ins_len x ss
    have hreach : ss.length * 16 ≤ 140737488351232 := by omega
    have HI := hide hI
    clear hlen hI h40
    cases hr : riseB ss
    · go_enter Try.func4, Try.ntmps4
      go_wp2_with fail
      refine (known8 _).mono ?_
      rintro e w1 ⟨rfl, hb1⟩
      have s1 := Strs.on (unhide HI) hb1
      go_wp2_with fail
      refine (rise16 _ _ _ ss hreach _ s1).mono ?_
      rintro e w2 ⟨rfl, hb2⟩
      rw [hr]
      have s2 := Strs.on s1 hb2
      go_wp2_with fail
      refine (refRise17 _ _ _ ss hreach _ s2).mono ?_
      rintro e w3 ⟨rfl, hb3⟩
      rw [hr]
      have s3 := Strs.on s2 hb3
      go_wp2_with fail
      refine (refRise17 _ _ _ ss hreach _ s3).mono ?_
      rintro e w4 ⟨rfl, hb4⟩
      rw [hr]
      go_wp2_with fail
      go_ret
      have b2 := hb1.trans (hb2.mono hb1.size)
      have b3 := b2.trans (hb3.mono b2.size)
      exact ⟨rfl, b3.trans (hb4.mono b3.size)⟩
    · have hr2 : riseB (ins x ss) = true := (rise_chain _).2 (chain_ins x ss ((rise_chain ss).1 hr))
      have hreach2 : (ins x ss).length * 16 ≤ 140737488351232 := by omega
      go_enter Try.func4, Try.ntmps4
      go_wp2_with fail
      refine (known8 _).mono ?_
      rintro e w1 ⟨rfl, hb1⟩
      have s1 := Strs.on (unhide HI) hb1
      go_wp2_with fail
      refine (rise16 _ _ _ ss hreach _ s1).mono ?_
      rintro e w2 ⟨rfl, hb2⟩
      rw [hr]
      have s2 := Strs.on s1 hb2
      clear s1
      go_wp2_with fail
      refine (refRise17 _ _ _ ss hreach _ s2).mono ?_
      rintro e w3 ⟨rfl, hb3⟩
      rw [hr]
      have s3 := Strs.on s2 hb3
      clear s2
      go_wp2_with fail
      refine (refRise17 _ _ _ ss hreach _ s3).mono ?_
      rintro e w4 ⟨rfl, hb4⟩
      rw [hr]
      have s4 := Strs.on s3 hb4
      clear s3
      go_wp2_with fail
      refine (with18s _ _ _ x ss hreach _ s4).mono ?_
      rintro e w5 ⟨a5, l5, c5, rfl, t5, hb5⟩
      have s5 := Strs.on s4 hb5
      clear s4
      go_wp2_with fail
      refine (refWith20 _ _ _ x ss (by omega) _ s5 hcap).mono ?_
      rintro e w6 ⟨a6, l6, c6, rfl, u6, hb6⟩
      have t6 := Strs.on t5 hb6
      clear s5 t5
      go_wp2_with fail
      refine (sameTexts19 _ _ _ _ _ _ (ins x ss) hreach2 _ t6 u6).mono ?_
      rintro e w7 ⟨rfl, hb7⟩
      have t7 := Strs.on t6 hb7
      clear t6 u6
      go_wp2_with fail
      refine (rise16 _ _ _ (ins x ss) hreach2 _ t7).mono ?_
      rintro e w8 ⟨rfl, hb8⟩
      rw [hr2]
      have t8 := Strs.on t7 hb8
      clear t7
      go_wp2_with fail
      refine (with18s _ _ _ x (ins x ss) hreach2 _ t8).mono ?_
      rintro e w9 ⟨a9, l9, c9, rfl, u9, hb9⟩
      rw [ins_twice] at u9
      have t9 := Strs.on t8 hb9
      clear t8
      go_wp2_with fail
      refine (sameTexts19 _ _ _ _ _ _ (ins x ss) hreach2 _ u9 t9).mono ?_
      rintro e w10 ⟨rfl, hb10⟩
      go_wp2_with fail
      go_ret
      have b2 := hb1.trans (hb2.mono hb1.size)
      have b3 := b2.trans (hb3.mono b2.size)
      have b4 := b3.trans (hb4.mono b3.size)
      have b5 := b4.trans (hb5.mono b4.size)
      have b6 := b5.trans (hb6.mono b5.size)
      have b7 := b6.trans (hb7.mono b6.size)
      have b8 := b7.trans (hb8.mono b7.size)
      have b9 := b8.trans (hb9.mono b8.size)
      exact ⟨rfl, b9.trans (hb10.mono b9.size)⟩

theorem cells9 : Try.prog.cellsOf 9 = 1 := by kernel_rfl

/-- A row of texts, as it is read: the texts, and that the length is within the capacity. -/
theorem open_row {H : Type} {enc : TypeId × Value → H} {W : World} {r : Reach} {b0 bs : Nat} {v : Value} {d : DataW H} {p : List MemPlace} {sp : Nat → Bool} {hd : Bool}
    (hv : Value.okWide Try.prog W r b0 30 v) (h : DataW.Trod enc Try.prog W bs sp hd 30 v d p) : ∃ a len cap ss, v = .slice a len cap ∧ len ≤ cap ∧ Strs W.heap.size W (.slice a len cap) ss := by
  obtain ⟨a, len, cap, rfl⟩ := okWide_slice Try.underlying30 hv
  obtain ⟨fuel, hf⟩ := h
  refine ⟨a, len, cap, ?_⟩
  rcases open_strings Try.underlying30 Try.underlying9 cells9 hf with ⟨hcs, _⟩ | ⟨x, l, c, ss, hcs, _, hl, _, hz, _, hcell, _⟩
  · simp [Value.cells] at hcs
    obtain ⟨rfl, rfl, rfl⟩ := hcs
    exact ⟨[], rfl, Nat.le_refl _, .inl ⟨_, _, rfl, rfl⟩⟩
  · simp [Value.cells] at hcs
    obtain ⟨rfl, rfl, rfl⟩ := hcs
    refine ⟨ss.take len, rfl, hl, ?_⟩
    have hge : len ≤ ss.length := by rw [hz]; split <;> omega
    cases len with
    | zero => exact .inl ⟨_, _, rfl, by simp⟩
    | succ n =>
      obtain ⟨b, off, spot⟩ := x
      have hspot : spot = none := by simpa [Addr.add] using World.cell?_spot (hcell 0 (by omega))
      subst hspot
      have hc' : ∀ j, j < n + 1 → W.cell? ⟨b, off + j, none⟩ = some (.string (ss.getD j ByteArray.empty)) := fun j hj => by rw [← Go.WideShapes.add_plain]; exact hcell j (by omega)
      refine .inr ⟨b, off, cap, by rw [List.length_take, Nat.min_eq_left hge], ?_, fun j hj => ?_⟩
      · exact block_lt_of_cell (hc' 0 (by omega))
      · have hj' : j < n + 1 := by simp at hj; omega
        rw [hc' j hj', List.getD_eq_getElem?_getD, List.getElem?_take, if_pos hj']

set_option maxRecDepth 100000 in
theorem lifted (os : Os) (started : os.Started) (H : Type) (enc : TypeId × Value → H) :
    ReturnsInHanded {} Try.checked os 4 .any (Rows.valueRowsSpec.pre6 enc Try.prog Try.f4 Rows.valueRowsRow.domain false) (Rows.valueRowsSpec.post enc Try.prog Try.f4 false true false false) := by
  refine returnsInHanded_of_change (C := Try.checked) own started (by kernel_rfl) Try.func4
    (ChangeSpec.witness6 (enc := enc) (C := Try.checked) false ⟨#[], #[.slice none 0 0, .string ⟨#[]⟩], []⟩ 8 (by kernel_rfl) (by kernel_rfl) (by kernel_rfl) (by kernel_rfl)) ?_
  intro W base args ds gs before hval0 hW hcnd _
  have hval : ∀ (j : Nat) t v, Try.f4.params[j]? = some t → args[j]? = some v → Value.okWide Try.prog W .any base t v := hval0
  have hW' := hW
  obtain ⟨p, q, hA0, hV, rfl, hfz, hnd⟩ := hW
  have hA : DataW.TrodAll enc Try.prog W 0 (fun _ => true) true Try.f4.params.toList args.toList ds p := hA0
  rw [Try.params4] at hA hval
  obtain ⟨v0, vs0, d0, ds0, p0, q0, hargs, rfl, rfl, h0, r0⟩ := trodAll_cons hA
  obtain ⟨v1, vs1, d1, ds1, p1, q1, rfl, rfl, rfl, h1, r1⟩ := trodAll_cons r0
  obtain ⟨rfl, rfl, rfl⟩ := trodAll_nil r1
  obtain rfl : args = #[v0, v1] := by cases args; simp_all
  obtain ⟨rfl, rfl⟩ := trodVars_none hV
  have lt0 : ∀ x ∈ p0, x.block < W.heap.size := by obtain ⟨m, hm⟩ := h0; exact DataW.trod_lt m _ _ _ hm
  have lt1 : ∀ x ∈ p1, x.block < W.heap.size := by obtain ⟨m, hm⟩ := h1; exact DataW.trod_lt m _ _ _ hm
  obtain ⟨a, len, cap, ss, rfl, hcap, hI⟩ := open_row (hval 0 30 v0 rfl rfl) h0
  obtain ⟨x, rfl, _, _, _⟩ := open_string Try.underlying9 (hval 1 9 v1 rfl rfl) h1
  clear hA0 hval0
  refine (walk a len cap x ss W hI hcap).mono fun e W' ⟨he, bel⟩ => ?_
  subst he
  exact ⟨_, rfl, _, _, _, [], _, [], hW', trodAll_mk1 (shut_bool Try.underlying4 _),
    trodAll_cons_mk (Below.trod laidOut (by kernel_rfl) (of_decide_eq_true (by kernel_rfl)) h0 bel lt0) (trodAll_cons_mk (Below.trod laidOut (by kernel_rfl) (of_decide_eq_true (by kernel_rfl)) h1 bel lt1) trodAll_mk0),
    rfl, bel.frame _, fun h => by cases h⟩

theorem over : Rows.valueRowsRow.holds Try.pinned (OpenSpec.ofChange Rows.valueRowsSpec) :=
  OpenClaim.holds_of_wide 4 Try.f4 rfl rfl rfl rfl rfl rfl rfl ⟨rfl, rfl, rfl, rfl, rfl⟩ rfl rfl rfl rfl rfl (by kernel_rfl) Try.func4 (by kernel_rfl)
    (of_decide_eq_true (by kernel_rfl)) (by unfold Func.isWrapper; first | (rw [if_pos (by decide +kernel)]; kernel_rfl) | (rw [if_neg (by decide +kernel)]; exact ⟨rfl, rfl⟩))
    (fun os started H enc _ => lifted os started H enc)

end Go.Proofs.Ythejndgnnlflhaa.valueRows

namespace Go.Proofs.Ythejndgnnlflhaa
theorem valueRows_holds : Rows.ValueRowsSaid := valueRows.over
end Go.Proofs.Ythejndgnnlflhaa
