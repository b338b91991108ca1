/-
  What Rise answers: for every row of texts, in whatever world: whether each is above the one ahead of it, byte by byte; nothing that lay is turned.
-/
import Derived.Test.YtfofpenajkaalaaDoorIter
namespace Go.Proofs.YtfofpenajkaalaaDoor
open Go.RowKit Go.Shelf

attribute [local go_sem] Oper.semAt_some

/-- The first is below the second, byte by byte. -/
def lessP (p : ByteArray × ByteArray) : Bool := Op.bytesLess p.1.toList p.2.toList
/-- Each of these pairs rises. -/
def allP (l : List (ByteArray × ByteArray)) : Bool := l.all lessP
theorem allP_snoc (l : List (ByteArray × ByteArray)) (x : ByteArray × ByteArray) : allP (l ++ [x]) = (allP l && lessP x) := by simp [allP]
/-- A row rises: each is above the one ahead of it. -/
def riseB (ss : List ByteArray) : Bool := allP (pairsTo ss (ss.length - 1))
theorem rise_no (ss : List ByteArray) (k : Nat) (hk : k ≤ ss.length - 1) (h : allP (pairsTo ss k) = false) : riseB ss = false := by
  unfold riseB allP pairsTo upto at *
  simp only [List.all_eq_false, List.mem_map, List.mem_range] at *
  obtain ⟨x, ⟨j, hj, rfl⟩, hx⟩ := h
  exact ⟨_, ⟨j, by omega, rfl⟩, hx⟩

set_option maxRecDepth 100000 in
set_option maxHeartbeats 2000000 in
theorem rise_in (n : Nat) (hn : 3 ≤ n) (a : Option Addr) (len cap : Nat) (ss : List ByteArray) (hreach : ss.length * 16 ≤ 140737488351232) (w : World) (hI : Strs w.heap.size w (.slice a len cap) ss) :
    CallsIn Fence.wide n Tryd.prog 89 #[.slice a len cap] w fun e W' => e = .returned (.bool (riseB ss)) ∧ Below w.heap.size w W' := by
  have h1 : 1 ≤ n := by omega
  have hro : Fence.wide.round = none := rfl
  refine callsIn_of_wp_marks Tryd.func89 rfl trivial ?_ rfl
  simp only [Tryd.ntmps89, List.size_toArray, List.length_cons, List.length_nil, Nat.reduceAdd, Nat.reduceSub, Array.replicate_succ, Array.replicate_zero, List.push_toArray, List.append_toArray, List.nil_append, List.cons_append]
  gi_wp2_with (refine ⟨trivial, ?_⟩; gi_at_call 97; refine (pairs_in (n - 1) _ _ _ _).mono ?_; rintro e w' ⟨rfl, rfl⟩)
  have bR := Boxed.new w 4 (.bool false)
  have bN := Boxed.new (w.alloc (.cells #[.bool false] 4)) 124 (.slice a len cap)
  rw [World.size_alloc] at bN
  have hB0 : Below w.heap.size w ((w.alloc (.cells #[.bool false] 4)).alloc (.cells #[.slice a len cap] 124)) := ((Below.refl _ w).alloc (Nat.le_refl _) _).alloc (by simp) _
  refine wpIn_rangeFunc_ownG hro h1 (gf := 100) (lb := #[.pointer (some ⟨w.heap.size + 1, 0, none⟩)]) rfl trivial (enters_of Tryd.func100 (by kernel_rfl) rfl)
    (pairs_stops (n - 1) (by omega) (w.heap.size + 1) (w.heap.size + 2) _ ss hreach _ (by omega) (by simp) bN.cell ((hI.below hB0).mono (by omega))) belowK_t (belowK_b (by simp)) (Below.refl _ _) (fun _ => rfl)
    (fun pre W => (Hid (allP pre = true) ∧ W.cell? ⟨w.heap.size, 0, none⟩ = some (.bool false) ∧ W.frozen? ⟨w.heap.size, 0, none⟩ = false) ∧ Below w.heap.size w W)
    (fun c pre W => (c = .ret ∧ Hid (allP pre = false) ∧ W.cell? ⟨w.heap.size, 0, none⟩ = some (.bool false)) ∧ Below w.heap.size w W)
    (OwnFrom.and (Own.from (fun s A B row hs hg hr => ⟨hs.1, cell_kept hs.2.1 hg hr, (frozen_kept hs.2.1 hg hr).trans hs.2.2⟩) _) (ownFrom_below (Nat.le_refl _) (by simp; omega)))
    (fun c => OwnFrom.and (Own.from (fun s A B row hs hg hr => by exact ⟨hs.1, hs.2.1, cell_kept hs.2.2 hg hr⟩) _) (ownFrom_below (Nat.le_refl _) (by simp; omega)))
    ⟨⟨hide rfl, (bR.alloc _).cell, (bR.alloc _).frozen⟩, hB0⟩
    (fun x => { tmps := #[.slice a len cap, undef, .pointer (some ⟨w.heap.size, 0, none⟩), .string x.1, .string x.2, .slice a len cap, .func (.func 100) #[] #[.pointer (some ⟨w.heap.size + 1, 0, none⟩)], .string x.1, .string x.2, undef, undef, undef], defers := [] }) ?assign ?body ?done ?stop
  case assign =>
    intro l x W K hK
    gi_wp2
    exact hK
  case body =>
    rintro l pre x W ⟨⟨hp, hcr, hfr⟩, hB⟩ _
    gi_wp2
    · have hx : (!Op.bytesLess x.fst.toList x.snd.toList) = true := by assumption
      have hx' : lessP x = false := by simpa [lessP] using hx
      exact ⟨(KeepsOthers.setCell _ _ _).from _, ⟨rfl, hide (by rw [allP_snoc, hx', Bool.and_false]), World.cell?_setCell_same' _ _ _ (by rw [hcr]; rfl)⟩, hB.setCell (p := ⟨w.heap.size, 0, none⟩) (Nat.le_refl _) _⟩
    · have hx : (!Op.bytesLess x.fst.toList x.snd.toList) = false := by assumption
      have hx' : lessP x = true := by simpa [lessP] using hx
      exact ⟨KeepsFrom.refl _ _, Below.refl _ _, ⟨hide (by rw [allP_snoc, hx', unhide hp]; rfl), hcr, hfr⟩, hB⟩
  case done =>
    rintro D ys W hD rfl ⟨⟨hne, hcr, hfr⟩, hB⟩ hK
    gi_wp2
    have hK' := (KeepsOthers.setCell W ⟨w.heap.size, 0, none⟩ (.bool true)).same D _ hK rfl
    refine ⟨by simp, .inl ⟨_, _, rfl, run_takeDeferred hK', ?_⟩⟩
    have hc5 := cell_kept (World.cell?_setCell_same' W ⟨w.heap.size, 0, none⟩ (.bool true) (by rw [hcr]; rfl)) (grownBy_putObj' _ D (.deferred none)) (fun r e => by cases e; exact ⟨_, hK', rfl⟩)
    have hr : riseB ss = true := unhide hne
    refine ⟨.bool true, ?_, by rw [hr], (hB.setCell (p := ⟨w.heap.size, 0, none⟩) (Nat.le_refl _) _).trans (belowK_b (w := w) (Nat.le_refl _) _ D _ _ (by simp at hD; omega) hK' rfl rfl)⟩
    simp [results, Tryd.f89, go_sem, hc5]
  case stop =>
    rintro D c pre W hD ⟨k, hk, rfl⟩ ⟨⟨rfl, hne, hcr⟩, hB⟩ hK
    gi_wp2
    refine ⟨by simp, .inl ⟨_, _, rfl, run_takeDeferred hK, ?_⟩⟩
    have hc5 := cell_kept hcr (grownBy_putObj' _ D (.deferred none)) (fun r e => by cases e; exact ⟨_, hK, rfl⟩)
    have hr : riseB ss = false := rise_no ss k hk (unhide hne)
    refine ⟨.bool false, ?_, by rw [hr], hB.trans (belowK_b (w := w) (Nat.le_refl _) W D _ _ (by simp at hD; omega) hK rfl rfl)⟩
    simp [results, Tryd.f89, go_sem, hc5]

end Go.Proofs.YtfofpenajkaalaaDoor

