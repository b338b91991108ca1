/-
  What the head of every law of layer 2 answers: true, in whatever world; nothing that lay is turned.
-/
import Derived.Test.YtndjoopnldnckaaOrder
namespace Go.Proofs.Ytndjoopnldnckaa
open Go.RowKit Go.Shelf

theorem rise_sort_eq (ns : List Txt) : riseB (sortT ns) = decide (bytesOf ns).Nodup := by
  rw [Bool.eq_iff_iff, rise_sort, decide_eq_true_eq]
theorem rise_txts_eq (ns : List Txt) : riseB (txts ns) = decide ((bytesOf ns).Pairwise (· < ·)) := by
  rw [Bool.eq_iff_iff, rise_pw, bytes_txts, decide_eq_true_eq]

/-- What may be, as it is reckoned. -/
def badD (fs : List Fd) : Bool := decide (5 < fs.length) || !namesB (fnames fs) || !decide (bytesOf (fnames fs)).Nodup || anyBad fs
def isD (ts : List Ty) : Bool := decide (ts.length ≤ 5) && namesB (tnames ts) && decide ((bytesOf (tnames ts)).Pairwise (· < ·)) && !ts.any fun t => badD t.2
theorem badF_eq (fs : List Fd) : badF fs = badD fs := by unfold badF badD; rw [rise_sort_eq]
theorem isS_eq (ts : List Ty) : isS ts = isD ts := by
  unfold isS isD anyBadT
  rw [rise_txts_eq]
  simp only [badF_eq]

def t1 (c : UInt8) : Txt := ⟨⟨#[c]⟩, show 1 ≤ maxLen by decide⟩
/-- The schema of the head. -/
def tsK : List Ty := [(t1 97, [(t1 120, 1)]), (t1 98, [])]
def tsA : List Ty := [(t1 65, [])]
theorem isS_K : isS tsK = true := by rw [isS_eq]; decide
theorem isS_A : isS tsA = false := by rw [isS_eq]; decide
theorem place_eq (ns : List Txt) (nm : ByteArray) : placeN ns nm = ns.findIdx? fun x => x.1.data.toList == nm.data.toList := by
  unfold placeN eqT
  simp only [ByteArray.toList_eq]
theorem place_a : placeN (tnames tsK) ⟨#[97]⟩ = some 0 := by rw [place_eq]; decide
theorem place_c : placeN (tnames tsK) ⟨#[99]⟩ = none := by rw [place_eq]; decide
theorem place_x : placeI (fnames [(t1 120, 1)]) ⟨#[120]⟩ = 0 := by unfold placeI; rw [place_eq]; decide
theorem place_y : placeI (fnames [(t1 120, 1)]) ⟨#[121]⟩ = -1 := by unfold placeI; rw [place_eq]; decide

/-- The world in which the head's schema lies. -/
def wK (w : World) : World := ((w.alloc (.cells #[.string ⟨#[120]⟩, .int .i64 1] 31)).alloc (.cells #[.string ⟨#[97]⟩, .slice (some ⟨w.heap.size, 0, none⟩) 1 1, .string ⟨#[98]⟩, .slice none 0 0] 29)).alloc (.cells #[.slice (some ⟨w.heap.size + 1, 0, none⟩) 2 2] 25)
theorem cell_old (W : World) (o : Obj) (a : Addr) (h : a.block < W.heap.size) : (W.alloc o).cell? a = W.cell? a := ((Below.refl W.heap.size W).alloc (Nat.le_refl _) o).cell h
theorem typs_K (w : World) : Typs (wK w).heap.size (wK w) (some ⟨w.heap.size + 1, 0, none⟩) tsK := by
  have c1 : ∀ o, (wK w).cell? ⟨w.heap.size + 1, o, none⟩ = ((w.alloc (.cells #[.string ⟨#[120]⟩, .int .i64 1] 31)).alloc (.cells #[.string ⟨#[97]⟩, .slice (some ⟨w.heap.size, 0, none⟩) 1 1, .string ⟨#[98]⟩, .slice none 0 0] 29)).cell? ⟨w.heap.size + 1, o, none⟩ := fun o => cell_old _ _ _ (by simp)
  have c0 : ∀ o, (wK w).cell? ⟨w.heap.size, o, none⟩ = (w.alloc (.cells #[.string ⟨#[120]⟩, .int .i64 1] 31)).cell? ⟨w.heap.size, o, none⟩ := fun o => (cell_old _ _ _ (by simp; omega)).trans (cell_old _ _ _ (by simp))
  refine .inr ⟨w.heap.size + 1, 0, rfl, by simp [wK], fun j hj => ?_⟩
  match j, hj with
  | 0, _ =>
    refine ⟨by rw [c1]; simp [tsK, ty, t1], some ⟨w.heap.size, 0, none⟩, 1, by rw [c1]; simp [tsK, ty], .inr ⟨w.heap.size, 0, rfl, by simp [wK]; omega, fun j hj => ?_⟩, by decide⟩
    match j, hj with
    | 0, _ => exact ⟨by rw [c0]; simp [tsK, ty, fd, t1], by rw [c0]; simp [tsK, ty, fd]⟩
  | 1, _ => exact ⟨by rw [c1]; simp [tsK, ty, t1], none, 0, by rw [c1]; simp [tsK, ty], .inl rfl, by decide⟩

theorem box_K (w : World) : (wK w).cell? ⟨w.heap.size + 1 + 1, 0, none⟩ = some (.slice (some ⟨w.heap.size + 1, 0, none⟩) 2 2) := by
  have := (Boxed.new ((w.alloc (.cells #[.string ⟨#[120]⟩, .int .i64 1] 31)).alloc (.cells #[.string ⟨#[97]⟩, .slice (some ⟨w.heap.size, 0, none⟩) 1 1, .string ⟨#[98]⟩, .slice none 0 0] 29)) 25 (.slice (some ⟨w.heap.size + 1, 0, none⟩) 2 2)).cell
  simp only [World.size_alloc] at this
  exact this
theorem typs_A (w : World) : Typs (w.alloc (.cells #[.string ⟨#[65]⟩, .slice none 0 0] 29)).heap.size (w.alloc (.cells #[.string ⟨#[65]⟩, .slice none 0 0] 29)) (some ⟨w.heap.size, 0, none⟩) tsA := by
  refine .inr ⟨w.heap.size, 0, rfl, by simp, fun j hj => ?_⟩
  match j, hj with
  | 0, _ => exact ⟨by simp [tsA, ty, t1], none, 0, by simp [tsA, ty], .inl rfl, by decide⟩

set_option maxHeartbeats 2000000 in
theorem known5 (w : World) : Calls Try.prog 5 #[] w fun e w' => e = .returned (.bool true) ∧ Below w.heap.size w w' := by
  have hT := typs_K w
  have b0 : Below w.heap.size w (wK w) := (((Below.refl _ _).alloc (Nat.le_refl _) _).alloc (by simp) _).alloc (by simp; omega) _
  have hk5 : ∀ k, (ty tsK k).2.length ≤ 5 := fun k => by
    match k with
    | 0 => decide
    | 1 => decide
    | k + 2 => simp [ty, tsK, show (default : Ty).2 = [] from rfl]
  have hcs : ∀ W, Below (wK w).heap.size (wK w) W → W.cell? ⟨w.heap.size + 1 + 1, 0, none⟩ = some (.slice (some ⟨w.heap.size + 1, 0, none⟩) 2 2) := fun W hb => (hb.cell (p := ⟨w.heap.size + 1 + 1, 0, none⟩) (by simp [wK])).trans (box_K w)
  have hTs : ∀ W, Below (wK w).heap.size (wK w) W → Typs W.heap.size W (some ⟨w.heap.size + 1, 0, none⟩) tsK := fun W hb => hT.on hb
  go_enter Try.func5, Try.ntmps5
  go_wp2_with fail
  refine (find7_some _ 2 tsK _ 0 (by decide) (wK w) hT place_a (by decide)).mono ?_
  rintro e w1 ⟨a1, c1, rfl, ⟨s1, _⟩, hb1⟩
  simp only [show (ty tsK 0).1.1 = ⟨#[97]⟩ from rfl, show (ty tsK 0).2.length = 1 from rfl]
  have b1 : Below w1.heap.size w1 (w1.alloc (.cells #[.string ⟨#[97]⟩, .slice a1 1 c1] 29)) := (Below.refl _ _).alloc (Nat.le_refl _) _
  have k1 := hb1.trans (b1.mono hb1.size)
  have s2 := s1.on b1
  have hc1 := hcs _ hb1
  have hT1 := hTs _ k1
  go_wp2_with fail
  refine (find7_none _ 2 tsK _ (by decide) _ hT1 place_c).mono ?_
  rintro e w2 ⟨rfl, hb2⟩
  have k2 := k1.trans (hb2.mono k1.size)
  have s3 := s2.on hb2
  have ht1 : ∀ W, Below w2.heap.size w2 W → W.cell? ⟨w1.heap.size, 0, none⟩ = some (.string ⟨#[97]⟩) := fun W hb => (hb.cell (p := ⟨w1.heap.size, 0, none⟩) (by have := hb2.size; simp at this ⊢; omega)).trans ((hb2.cell (p := ⟨w1.heap.size, 0, none⟩) (by simp)).trans (by simp))
  have ht2 : ∀ W, Below w2.heap.size w2 W → W.cell? ⟨w1.heap.size, 1, none⟩ = some (.slice a1 1 c1) := fun W hb => (hb.cell (p := ⟨w1.heap.size, 1, none⟩) (by have := hb2.size; simp at this ⊢; omega)).trans ((hb2.cell (p := ⟨w1.heap.size, 1, none⟩) (by simp)).trans (by simp))
  have b3 : Below w2.heap.size w2 (w2.alloc (.cells #[.string ⟨#[]⟩, .slice none 0 0] 29)) := (Below.refl _ _).alloc (Nat.le_refl _) _
  have k3 := k2.trans (b3.mono k2.size)
  have hc2 := hcs _ k2
  have hc3 := hcs _ k3
  have hT3 := hTs _ k3
  go_wp2_with fail
  refine (is6 _ 2 tsK (by decide) _ hT3).mono ?_
  rintro e w4 ⟨rfl, hb4⟩
  rw [isS_K]
  have k4 := k3.trans (hb4.mono k3.size)
  have b5 : Below w4.heap.size w4 (w4.alloc (.cells #[.string ⟨#[65]⟩, .slice none 0 0] 29)) := (Below.refl _ _).alloc (Nat.le_refl _) _
  go_wp2_with fail
  refine (is6 _ 1 tsA (by decide) _ (typs_A w4)).mono ?_
  rintro e w6 ⟨rfl, hb6⟩
  rw [isS_A]
  have k5 := k4.trans (b5.mono k4.size)
  have k6 := k5.trans (hb6.mono k5.size)
  have hc6 := hcs _ k6
  have hT6 := hTs _ k6
  go_wp2_with fail
  refine (same9_self _ 2 tsK (by decide) hk5 _ hT6).mono ?_
  rintro e w7 ⟨rfl, hb7⟩
  have k7 := k6.trans (hb7.mono k6.size)
  have hc7 := hcs _ k7
  go_wp2_with fail
  refine (same9_len _ _ _ _ _ _ (by decide) _).mono ?_
  rintro e w8 ⟨rfl, hb8⟩
  have q3 := b3.trans (hb4.mono b3.size)
  have q5 := q3.trans (b5.mono q3.size)
  have q6 := q5.trans (hb6.mono q5.size)
  have q7 := q6.trans (hb7.mono q6.size)
  have q8 := q7.trans (hb8.mono q7.size)
  have hd1 := ht1 _ q8
  have hd2 := ht2 _ q8
  have s8 := s3.on q8
  go_wp2_with fail
  refine (field8 _ _ _ _ [(t1 120, 1)] (by decide) _ s8).mono ?_
  rintro e w9 ⟨rfl, hb9⟩
  rw [place_x]
  have q9 := q8.trans (hb9.mono q8.size)
  have he1 := ht1 _ q9
  have he2 := ht2 _ q9
  have s9 := s3.on q9
  go_wp2_with fail
  refine (field8 _ _ _ _ [(t1 120, 1)] (by decide) _ s9).mono ?_
  rintro e w10 ⟨rfl, hb10⟩
  rw [place_y]
  go_wp2_with fail
  go_ret
  have q10 := q9.trans (hb10.mono q9.size)
  exact ⟨rfl, b0.trans ((k2.trans (q10.mono k2.size)).mono b0.size)⟩

end Go.Proofs.Ytndjoopnldnckaa
