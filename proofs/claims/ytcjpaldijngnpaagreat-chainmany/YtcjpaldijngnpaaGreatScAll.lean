/-
  What allNames answers of a walk over names: whether each is a name; for every walk, in whatever world; nothing that lay is turned.
-/
import Derived.Test.YtcjpaldijngnpaaGreatScSeq
import Derived.Test.YtcjpaldijngnpaaGreatScRise
namespace Go.Proofs.YtcjpaldijngnpaaGreat.Sc
open Go.RowKit Go.Shelf

attribute [local go_sem] Oper.semAt_some

theorem keeps_below {W W' : World} (hb : Below W.heap.size W W') : KeepsOthers W W' := ⟨hb.size, fun k _ hk _ => (hb.block k (Array.getElem?_eq_some_iff.1 hk).1).trans hk⟩
theorem cell_lt {w : World} {a : Addr} {v : Value} (h : w.cell? a = some v) : a.block < w.heap.size := by
  rcases Nat.lt_or_ge a.block w.heap.size with h' | h'
  · exact h'
  · simp [World.cell?, Array.getElem?_eq_none h'] at h

def namesB (l : List Txt) : Bool := l.all fun x => nameB x.1
theorem namesB_snoc (l : List Txt) (x : Txt) : namesB (l ++ [x]) = (namesB l && nameB x.1) := by simp [namesB]
theorem names_no (l : List Txt) (k : Nat) (h : namesB (l.take k) = false) : namesB l = false := by
  unfold namesB at *
  simp only [List.all_eq_false] at *
  obtain ⟨x, hx, hn⟩ := h
  exact ⟨x, List.mem_of_mem_take hx, hn⟩

set_option maxRecDepth 100000 in
set_option maxHeartbeats 2000000 in
theorem allNames_in (n : Nat) (hn : 3 ≤ n) (g Bs : Nat) (ns : List Txt) (w : World) (hG : Gives w g Bs ns) :
    CallsIn Fence.wide n Tryz.prog 30 #[.func (.func g) #[] #[.pointer (some ⟨Bs, 0, none⟩)]] w fun e W' => e = .returned (.bool (namesB ns)) ∧ Below w.heap.size w W' := by
  have h1 : 1 ≤ n := by omega
  have hro : Fence.wide.round = none := rfl
  obtain ⟨hg, _, hS⟩ := hG
  have hE : Enters Tryz.prog g := by
    rcases hg with rfl | rfl
    · exact enters_of Tryz.func51 (by kernel_rfl) rfl
    · exact enters_of Tryz.func74 (by kernel_rfl) rfl
  refine callsIn_of_wp_marks Tryz.func30 rfl trivial ?_ rfl
  simp only [Tryz.ntmps30, List.size_toArray, List.length_cons, List.length_nil, Nat.reduceAdd, Nat.reduceSub, Array.replicate_succ, Array.replicate_zero, List.push_toArray, List.append_toArray, List.nil_append, List.cons_append]
  gi_wp2
  have bR := Boxed.new w 4 (.bool false)
  have hB0 : Below w.heap.size w (w.alloc (.cells #[.bool false] 4)) := (Below.refl _ w).alloc (Nat.le_refl _) _
  refine wpIn_rangeFunc_ownG hro h1 (gf := g) (lb := #[.pointer (some ⟨Bs, 0, none⟩)]) rfl trivial hE
    (hS (n - 1) _ (by omega) hB0) belowK_t (belowK_b (by simp)) (Below.refl _ _) (fun _ => rfl)
    (fun pre W => (Hid (namesB pre = true) ∧ W.cell? ⟨w.heap.size, 0, none⟩ = some (.bool false) ∧ W.frozen? ⟨w.heap.size, 0, none⟩ = false) ∧ Below w.heap.size w W)
    (fun c pre W => (c = .ret ∧ Hid (namesB pre = false) ∧ W.cell? ⟨w.heap.size, 0, none⟩ = some (.bool false)) ∧ Below w.heap.size w W)
    (OwnFrom.and (Own.from (fun s A B row hs hg hr => ⟨hs.1, cell_kept hs.2.1 hg hr, (frozen_kept hs.2.1 hg hr).trans hs.2.2⟩) _) (ownFrom_below (Nat.le_refl _) (by simp)))
    (fun c => OwnFrom.and (Own.from (fun s A B row hs hg hr => by exact ⟨hs.1, hs.2.1, cell_kept hs.2.2 hg hr⟩) _) (ownFrom_below (Nat.le_refl _) (by simp)))
    ⟨⟨hide rfl, bR.cell, bR.frozen⟩, hB0⟩
    (fun x => { tmps := #[.func (.func g) #[] #[.pointer (some ⟨Bs, 0, none⟩)], undef, .pointer (some ⟨w.heap.size, 0, none⟩), .string x.1, .func (.func g) #[] #[.pointer (some ⟨Bs, 0, none⟩)], .string x.1, undef, undef, undef], defers := [] }) ?assign ?body ?done ?stop
  case assign =>
    intro l x W K hK
    gi_wp2
    exact hK
  case body =>
    rintro l pre x W ⟨⟨hp, hcr, hfr⟩, hB⟩ _
    have hs := x.2
    have h2 : 1 ≤ n - 1 - 1 := by omega
    cases hx : nameB x.1
    · gi_wp2_with (refine ⟨trivial, ?_⟩; gi_at_call 50; refine (CallsIn.inRound l (callsIn_wide.2 (name21 x.1 _ hs))).mono ?_; rintro e w3 ⟨rfl, hb3⟩; rw [hx]; have hcr3 := (hb3.cell (p := ⟨w.heap.size, 0, none⟩) (cell_lt hcr)).trans hcr; have hfr3 := (hb3.frozen (p := ⟨w.heap.size, 0, none⟩) (cell_lt hcr)).trans hfr)
      exact ⟨((keeps_below hb3).trans (KeepsOthers.setCell _ _ _)).from _, ⟨rfl, hide (by rw [namesB_snoc, hx, Bool.and_false]), World.cell?_setCell_same' _ _ _ (by rw [hcr3]; rfl)⟩, (hB.trans (hb3.mono hB.size)).setCell (p := ⟨w.heap.size, 0, none⟩) (Nat.le_refl _) _⟩
    · gi_wp2_with (refine ⟨trivial, ?_⟩; gi_at_call 50; refine (CallsIn.inRound l (callsIn_wide.2 (name21 x.1 _ hs))).mono ?_; rintro e w3 ⟨rfl, hb3⟩; rw [hx])
      have hcr3 := (hb3.cell (p := ⟨w.heap.size, 0, none⟩) (cell_lt hcr)).trans hcr
      have hfr3 := (hb3.frozen (p := ⟨w.heap.size, 0, none⟩) (cell_lt hcr)).trans hfr
      exact ⟨(keeps_below hb3).from _, hb3.mono hB.size, ⟨hide (by rw [namesB_snoc, hx, unhide hp]; rfl), hcr3, hfr3⟩, hB.trans (hb3.mono hB.size)⟩
  case done =>
    rintro D ys W hD rfl ⟨⟨hne, hcr, hfr⟩, hB⟩ hK
    gi_wp2
    have hK' := (KeepsOthers.setCell W ⟨w.heap.size, 0, none⟩ (.bool true)).same D _ hK rfl
    refine ⟨by simp, .inl ⟨_, _, rfl, run_takeDeferred hK', ?_⟩⟩
    have hc5 := cell_kept (World.cell?_setCell_same' W ⟨w.heap.size, 0, none⟩ (.bool true) (by rw [hcr]; rfl)) (grownBy_putObj' _ D (.deferred none)) (fun r e => by cases e; exact ⟨_, hK', rfl⟩)
    have hr : namesB ys = true := unhide hne
    refine ⟨.bool true, ?_, by rw [hr], (hB.setCell (p := ⟨w.heap.size, 0, none⟩) (Nat.le_refl _) _).trans (belowK_b (w := w) (Nat.le_refl _) _ D _ _ (by simp at hD; omega) hK' rfl rfl)⟩
    simp [results, Tryz.f30, go_sem, hc5]
  case stop =>
    rintro D c pre W hD ⟨k, hk, rfl⟩ ⟨⟨rfl, hne, hcr⟩, hB⟩ hK
    gi_wp2
    refine ⟨by simp, .inl ⟨_, _, rfl, run_takeDeferred hK, ?_⟩⟩
    have hc5 := cell_kept hcr (grownBy_putObj' _ D (.deferred none)) (fun r e => by cases e; exact ⟨_, hK, rfl⟩)
    have hr : namesB ns = false := names_no ns k (unhide hne)
    refine ⟨.bool false, ?_, by rw [hr], hB.trans (belowK_b (w := w) (Nat.le_refl _) W D _ _ (by simp at hD; omega) hK rfl rfl)⟩
    simp [results, Tryz.f30, go_sem, hc5]

theorem allNames10 (g Bs : Nat) (ns : List Txt) (w : World) (hG : Gives w g Bs ns) :
    Calls Tryz.prog 30 #[.func (.func g) #[] #[.pointer (some ⟨Bs, 0, none⟩)]] w fun e W' => e = .returned (.bool (namesB ns)) ∧ Below w.heap.size w W' :=
  callsIn_wide.1 (allNames_in 3 (Nat.le_refl _) g Bs ns w hG)

end Go.Proofs.YtcjpaldijngnpaaGreat.Sc
