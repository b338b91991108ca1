/-
  What event's Copy makes of an event: one of a row of its own; for every event of at most 20 values, in whatever world; nothing that lay is turned. Rows that a call owns, carried along.
-/
import Derived.Test.YtcjpaldijngnpaaGreatDoorVals
namespace Go.Proofs.YtcjpaldijngnpaaGreatDoor
open Go.RowKit Go.Shelf

theorem owns_keep {W W' : World} {base : Nat} {e : TypeId} {size : Nat} {v : Value} {n : Nat} {xs : List Value} (h : W.ownsRow base e size v n xs) (hk : ∀ g, v.ownBlock = some g → g < W.heap.size → W'.heap[g]? = W.heap[g]?) : W'.ownsRow base e size v n xs := by
  refine ⟨h.1, ?_⟩
  rcases h.2 with h0 | ⟨g, cap, cur, rfl, hb, hg, hr⟩
  · exact .inl h0
  · exact .inr ⟨g, cap, cur, rfl, hb, (hk g rfl (Array.getElem?_eq_some_iff.1 hg).1).trans hg, hr⟩

theorem owns_below {W W' : World} {base : Nat} {e : TypeId} {size : Nat} {v : Value} {n : Nat} {xs : List Value} (h : W.ownsRow base e size v n xs) (hb : Below W.heap.size W W') : W'.ownsRow base e size v n xs :=
  owns_keep h fun g _ hg => hb.block g hg

theorem owns_lt {W : World} {base : Nat} {e : TypeId} {size : Nat} {v : Value} {n : Nat} {xs : List Value} (h : W.ownsRow base e size v n xs) {g : Nat} (hg : v.ownBlock = some g) : base ≤ g ∧ ∃ cur, W.heap[g]? = some (.cells cur e (0, 0)) := by
  rcases h.2 with ⟨rfl, _⟩ | ⟨g', cap, cur, rfl, hb, hg', _⟩
  · cases hg
  · cases hg; exact ⟨hb, cur, hg'⟩

theorem owns_base {W : World} {base base' : Nat} (hl : base' ≤ base) {e : TypeId} {size : Nat} {v : Value} {n : Nat} {xs : List Value} (h : W.ownsRow base e size v n xs) : W.ownsRow base' e size v n xs := by
  refine ⟨h.1, ?_⟩
  rcases h.2 with h0 | ⟨g, cap, cur, rfl, hb, hr⟩
  · exact .inl h0
  · exact .inr ⟨g, cap, cur, rfl, Nat.le_trans hl hb, hr⟩

/-- What the cells of an owned row hold. -/
theorem owns_cells {W : World} {base : Nat} {e : TypeId} {a : Option Addr} {size n c : Nat} {xs : List Value} (h : W.ownsRow base e size (.slice a n c) n xs) (hn : 0 < n) :
    ∃ g, a = some ⟨g, 0, none⟩ ∧ base ≤ g ∧ g < W.heap.size ∧ n ≤ c ∧ (∃ cur, W.heap[g]? = some (.cells cur e (0, 0))) ∧ (∀ i, i < n * size → W.cell? ⟨g, i, none⟩ = xs[i]?) ∧ ∀ i, W.frozen? ⟨g, i, none⟩ = false := by
  rcases h.2 with ⟨h0, h1⟩ | ⟨g, cap, cur, h0, hb, hg, hnc, _, _, ht⟩
  · omega
  · simp only [Value.slice.injEq, true_and] at h0
    obtain ⟨rfl, rfl⟩ := h0
    refine ⟨g, rfl, hb, (Array.getElem?_eq_some_iff.1 hg).1, hnc, ⟨cur, hg⟩, fun i hi => ?_, fun i => by simp [World.frozen?, hg]⟩
    rw [← ht, List.getElem?_take, if_pos hi, Array.getElem?_toList]
    simp [World.cell?, hg]

theorem setCell_block (W : World) (p : Addr) (v : Value) {g : Nat} (h : p.block ≠ g) : (W.setCell p v).heap[g]? = W.heap[g]? := by
  simp [World.setCell, Array.getElem?_modify, h]
theorem owns_set {W : World} {base : Nat} {e : TypeId} {size : Nat} {v : Value} {n : Nat} {xs : List Value} (h : W.ownsRow base e size v n xs) (p : Addr) (u : Value) (hp : p.block < base) : (W.setCell p u).ownsRow base e size v n xs :=
  owns_keep h fun g hg _ => setCell_block W p u (by have := (owns_lt h hg).1; omega)

theorem three_set {w : World} {b : Nat} {x y z v0 v1 v2 : Value} (h0 : w.cell? ⟨b, 0, none⟩ = some x) (h1 : w.cell? ⟨b, 1, none⟩ = some y) (h2 : w.cell? ⟨b, 2, none⟩ = some z) :
    (((w.setCell ⟨b, 0, none⟩ v0).setCell ⟨b, 1, none⟩ v1).setCell ⟨b, 2, none⟩ v2).cell? ⟨b, 0, none⟩ = some v0 ∧ (((w.setCell ⟨b, 0, none⟩ v0).setCell ⟨b, 1, none⟩ v1).setCell ⟨b, 2, none⟩ v2).cell? ⟨b, 1, none⟩ = some v1 ∧ (((w.setCell ⟨b, 0, none⟩ v0).setCell ⟨b, 1, none⟩ v1).setCell ⟨b, 2, none⟩ v2).cell? ⟨b, 2, none⟩ = some v2 := by
  obtain ⟨e0, e1⟩ := two_set (v0 := v0) (v1 := v1) h0 h1
  have e2 : ((w.setCell ⟨b, 0, none⟩ v0).setCell ⟨b, 1, none⟩ v1).cell? ⟨b, 2, none⟩ = some z := ((World.cell?_setCell_other _ _ _ _ (by simp)).trans (World.cell?_setCell_other _ _ _ _ (by simp))).trans h2
  exact ⟨(World.cell?_setCell_other _ _ _ _ (by simp)).trans e0, (World.cell?_setCell_other _ _ _ _ (by simp)).trans e1, World.cell?_setCell_same' _ _ _ (by rw [e2]; rfl)⟩

set_option maxHeartbeats 1000000 in
theorem copy_c (t : ByteArray) (ts : Int) (a : Option Addr) (cap : Nat) (vs : List Vl) (h20 : vs.length ≤ 20) (w : World) (hV : Vals w.heap.size w a vs) :
    Calls Tryz.prog 37 #[.agg #[.string t, .int .i64 ts, .slice a vs.length cap]] w fun e w' => ∃ a' c', e = .returned (.agg #[.string t, .int .i64 ts, .slice a' vs.length c']) ∧ w'.ownsRow w.heap.size 40 3 (.slice a' vs.length c') vs.length (newsV vs) ∧ Below w.heap.size w w' := by
  have b0 : Below w.heap.size w ((w.alloc (.cells #[.string t, .int .i64 ts, .slice a vs.length cap] 28)).alloc (.cells #[.string ⟨#[]⟩, .int .i64 0, .slice none 0 0] 28)) := ((Below.refl _ _).alloc (Nat.le_refl _) _).alloc (by simp) _
  have s0 := hV.on b0
  go_enter Tryz.func37, Tryz.ntmps37
  go_wp2_with fail
  refine (cloneV_c a cap vs h20 _ s0).mono ?_
  rintro e w1 ⟨a', c', rfl, ho, hb1⟩
  have hc0 : w1.cell? ⟨w.heap.size, 0, none⟩ = some (.string t) := (hb1.cell (p := ⟨w.heap.size, 0, none⟩) (by simp; omega)).trans (by simp)
  have hc1 : w1.cell? ⟨w.heap.size, 1, none⟩ = some (.int .i64 ts) := (hb1.cell (p := ⟨w.heap.size, 1, none⟩) (by simp; omega)).trans (by simp)
  have hc2 : w1.cell? ⟨w.heap.size, 2, none⟩ = some (.slice a vs.length cap) := (hb1.cell (p := ⟨w.heap.size, 2, none⟩) (by simp; omega)).trans (by simp)
  have hf2 : w1.frozen? ⟨w.heap.size, 2, none⟩ = false := (hb1.frozen (p := ⟨w.heap.size, 2, none⟩) (by simp; omega)).trans (by simp)
  have hd0 : w1.cell? ⟨w.heap.size + 1, 0, none⟩ = some (.string ⟨#[]⟩) := (hb1.cell (p := ⟨w.heap.size + 1, 0, none⟩) (by simp)).trans (by simp)
  have hd1 : w1.cell? ⟨w.heap.size + 1, 1, none⟩ = some (.int .i64 0) := (hb1.cell (p := ⟨w.heap.size + 1, 1, none⟩) (by simp)).trans (by simp)
  have hd2 : w1.cell? ⟨w.heap.size + 1, 2, none⟩ = some (.slice none 0 0) := (hb1.cell (p := ⟨w.heap.size + 1, 2, none⟩) (by simp)).trans (by simp)
  have hg0 : w1.frozen? ⟨w.heap.size + 1, 0, none⟩ = false := (hb1.frozen (p := ⟨w.heap.size + 1, 0, none⟩) (by simp)).trans (by simp)
  have hg1 : w1.frozen? ⟨w.heap.size + 1, 1, none⟩ = false := (hb1.frozen (p := ⟨w.heap.size + 1, 1, none⟩) (by simp)).trans (by simp)
  have hg2 : w1.frozen? ⟨w.heap.size + 1, 2, none⟩ = false := (hb1.frozen (p := ⟨w.heap.size + 1, 2, none⟩) (by simp)).trans (by simp)
  have ho := hide ho
  have b1 := b0.trans (hb1.mono b0.size)
  go_wp2_with fail
  have hk0 : (w1.setCell ⟨w.heap.size, 2, none⟩ (.slice a' vs.length c')).cell? ⟨w.heap.size + 1, 0, none⟩ = some (.string ⟨#[]⟩) := (World.cell?_setCell_other _ _ _ _ (by simp)).trans hd0
  have hk1 : (w1.setCell ⟨w.heap.size, 2, none⟩ (.slice a' vs.length c')).cell? ⟨w.heap.size + 1, 1, none⟩ = some (.int .i64 0) := (World.cell?_setCell_other _ _ _ _ (by simp)).trans hd1
  have hk2 : (w1.setCell ⟨w.heap.size, 2, none⟩ (.slice a' vs.length c')).cell? ⟨w.heap.size + 1, 2, none⟩ = some (.slice none 0 0) := (World.cell?_setCell_other _ _ _ _ (by simp)).trans hd2
  obtain ⟨he0, he1, he2⟩ := three_set (v0 := .string t) (v1 := .int .i64 ts) (v2 := .slice a' vs.length c') hk0 hk1 hk2
  refine bodyPost_ret (v := .agg #[.string t, .int .i64 ts, .slice a' vs.length c']) (by simp [results, Tryz.results37, go_sem, he0, he1, he2]) rfl ⟨a', c', rfl, ?_, ?_⟩
  · have hz : w.heap.size + 1 + 1 ≤ ((w.alloc (.cells #[.string t, .int .i64 ts, .slice a vs.length cap] 28)).alloc (.cells #[.string ⟨#[]⟩, .int .i64 0, .slice none 0 0] 28)).heap.size := by simp
    have h2 := owns_base hz (unhide ho)
    exact owns_base (by omega) (owns_set (owns_set (owns_set (owns_set h2 _ _ (by simp only; omega)) _ _ (by simp only; omega)) _ _ (by simp only; omega)) _ _ (by simp only; omega))
  · exact (((b1.setCell (p := ⟨w.heap.size, 2, none⟩) (by simp) _).setCell (p := ⟨w.heap.size + 1, 0, none⟩) (by simp) _).setCell (p := ⟨w.heap.size + 1, 1, none⟩) (by simp) _).setCell (p := ⟨w.heap.size + 1, 2, none⟩) (by simp) _

end Go.Proofs.YtcjpaldijngnpaaGreatDoor
