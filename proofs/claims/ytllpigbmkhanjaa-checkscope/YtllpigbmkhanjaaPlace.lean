/-
  What place answers of a walk over names and a name: where it stands first, -1 if nowhere; for every walk, in whatever world; nothing that lay is turned.
-/
import Derived.Test.YtllpigbmkhanjaaSeq
namespace Go.Proofs.Ytllpigbmkhanjaa
open Go.RowKit Go.Shelf

attribute [local go_sem] Oper.semAt_some

def eqT (nm : ByteArray) (x : Txt) : Bool := x.1.toList == nm.toList
def placeN (ns : List Txt) (nm : ByteArray) : Option Nat := ns.findIdx? (eqT nm)
def placeI (ns : List Txt) (nm : ByteArray) : Int := match placeN ns nm with | some k => k | none => -1
def noneB (nm : ByteArray) (l : List Txt) : Bool := l.all fun x => !eqT nm x
theorem noneB_snoc (nm : ByteArray) (l : List Txt) (x : Txt) : noneB nm (l ++ [x]) = (noneB nm l && !eqT nm x) := by simp [noneB]
theorem place_none {ns : List Txt} {nm : ByteArray} (h : noneB nm ns = true) : placeI ns nm = -1 := by
  have : placeN ns nm = none := by
    simp only [placeN, List.findIdx?_eq_none_iff]
    simpa [noneB] using h
  simp [placeI, this]
theorem place_some {ns q : List Txt} {x : Txt} {nm : ByteArray} {k : Nat} (e : q ++ [x] = ns.take k) (hq : noneB nm q = true) (hx : eqT nm x = true) : placeI ns nm = q.length := by
  have : placeN ns nm = some q.length := by
    have e2 : ns = q ++ ([x] ++ ns.drop k) := by rw [← List.append_assoc, e, List.take_append_drop]
    have h0 : List.findIdx? (eqT nm) q = none := by
      rw [List.findIdx?_eq_none_iff]; simpa [noneB] using hq
    rw [placeN, e2, List.findIdx?_append, h0]
    simp [List.findIdx?_cons, hx]
  simp [placeI, this]

set_option maxRecDepth 100000 in
set_option maxHeartbeats 2000000 in
theorem place_in (n : Nat) (hn : 3 ≤ n) (g Bs : Nat) (nm : ByteArray) (ns : List Txt) (w : World) (hG : Gives w g Bs ns) :
    CallsIn Fence.wide n Try.prog 54 #[.func (.func g) #[] #[.pointer (some ⟨Bs, 0, none⟩)], .string nm] w fun e W' => e = .returned (.int .i64 (placeI ns nm)) ∧ Below w.heap.size w W' := by
  have h1 : 1 ≤ n := by omega
  have hro : Fence.wide.round = none := rfl
  obtain ⟨hg, h5, hS⟩ := hG
  have hE : Enters Try.prog g := by
    rcases hg with rfl | rfl
    · exact enters_of Try.func63 (by kernel_rfl) rfl
    · exact enters_of Try.func64 (by kernel_rfl) rfl
  refine callsIn_of_wp_marks Try.func54 rfl trivial ?_ rfl
  simp only [Try.ntmps54, List.size_toArray, List.length_cons, List.length_nil, Nat.reduceAdd, Nat.reduceSub, Array.replicate_succ, Array.replicate_zero, List.push_toArray, List.append_toArray, List.nil_append, List.cons_append]
  gi_wp2
  have bN := Boxed.new w 9 (.string nm)
  have bR := Boxed.new (w.alloc (.cells #[.string nm] 9)) 3 (.int .i64 0)
  have bI := Boxed.new ((w.alloc (.cells #[.string nm] 9)).alloc (.cells #[.int .i64 0] 3)) 3 (.int .i64 0)
  simp only [World.size_alloc] at bR bI
  have hB0 : Below w.heap.size w (((w.alloc (.cells #[.string nm] 9)).alloc (.cells #[.int .i64 0] 3)).alloc (.cells #[.int .i64 0] 3)) := (((Below.refl _ w).alloc (Nat.le_refl _) _).alloc (by simp) _).alloc (by simp; omega) _
  refine wpIn_rangeFunc_ownG hro h1 (gf := g) (lb := #[.pointer (some ⟨Bs, 0, none⟩)]) rfl trivial hE
    (hS (n - 1) _ (by omega) hB0) belowK_t (belowK_b (by simp; omega)) (Below.refl _ _) (fun _ => rfl)
    (fun pre W => (Hid (noneB nm pre = true) ∧ Boxed W w.heap.size 9 (.string nm) ∧ Boxed W (w.heap.size + 1) 3 (.int .i64 0) ∧ Boxed W (w.heap.size + 1 + 1) 3 (.int .i64 pre.length)) ∧ Below w.heap.size w W)
    (fun c pre W => (c = .ret ∧ Hid (∃ q x, pre = q ++ [x] ∧ noneB nm q = true ∧ eqT nm x = true) ∧ Boxed W (w.heap.size + 1) 3 (.int .i64 (pre.length - 1))) ∧ Below w.heap.size w W)
    (OwnFrom.and (Own.from (fun s A B row hs hg hr => ⟨hs.1, boxed_own _ _ (fun _ => _) s A B row hs.2.1 hg hr, boxed_own _ _ (fun _ => _) s A B row hs.2.2.1 hg hr, boxed_own _ _ (fun _ => _) s A B row hs.2.2.2 hg hr⟩) _) (ownFrom_below (Nat.le_refl _) (by simp; omega)))
    (fun c => OwnFrom.and (Own.from (fun s A B row hs hg hr => by exact ⟨hs.1, hs.2.1, boxed_own _ _ (fun _ => _) s A B row hs.2.2 hg hr⟩) _) (ownFrom_below (Nat.le_refl _) (by simp; omega)))
    ⟨⟨hide rfl, (bN.alloc _).alloc _, bR.alloc _, bI⟩, hB0⟩
    (fun x => { tmps := #[.func (.func g) #[] #[.pointer (some ⟨Bs, 0, none⟩)], .string nm, undef, .pointer (some ⟨w.heap.size, 0, none⟩), .pointer (some ⟨w.heap.size + 1, 0, none⟩), .pointer (some ⟨w.heap.size + 1 + 1, 0, none⟩), .string x.1, .func (.func g) #[] #[.pointer (some ⟨Bs, 0, none⟩)], .string x.1, undef, undef, undef, undef, undef, undef], defers := [] }) ?assign ?body ?done ?stop
  case assign =>
    intro l x W K hK
    gi_wp2
    exact hK
  case body =>
    rintro l pre x W ⟨⟨hp, hbn, hbr, hbi⟩, hB⟩ hlt
    have h2 : 1 ≤ n - 1 - 1 := by omega
    have hc1 := hbn.cell
    have hc2 := hbr.cell
    have hc3 := hbi.cell
    have hf2 := hbr.frozen
    have hf3 := hbi.frozen
    gi_wp2
    · have hx : eqT nm x = true := by assumption
      refine ⟨(KeepsOthers.setCell _ _ _).from _, ⟨rfl, hide ⟨pre, x, rfl, unhide hp, hx⟩, ?_⟩, hB.setCell (p := ⟨w.heap.size + 1, 0, none⟩) (by simp) _⟩
      have := hbr.set (.int .i64 pre.length)
      simpa using this
    · have hx : eqT nm x = false := by assumption
      refine ⟨(KeepsOthers.setCell _ _ _).from _, (Below.refl _ _).setCell (p := ⟨w.heap.size + 1 + 1, 0, none⟩) (by simp; omega) _, ⟨hide (by rw [noneB_snoc, hx, unhide hp]; rfl), hbn.other (by omega) _, hbr.other (by omega) _, ?_⟩, hB.setCell (p := ⟨w.heap.size + 1 + 1, 0, none⟩) (by simp; omega) _⟩
      have := hbi.set (.int .i64 (pre.length + 1))
      simpa using this
  case done =>
    rintro D ys W hD rfl ⟨⟨hne, hbn, hbr, hbi⟩, hB⟩ hK
    have hcr := hbr.cell
    have hfr := hbr.frozen
    gi_wp2
    have hK' := (KeepsOthers.setCell W ⟨w.heap.size + 1, 0, none⟩ (.int .i64 (-1))).same D _ hK rfl
    refine ⟨by simp, .inl ⟨_, _, rfl, run_takeDeferred hK', ?_⟩⟩
    have hc5 := cell_kept (World.cell?_setCell_same' W ⟨w.heap.size + 1, 0, none⟩ (.int .i64 (-1)) (by rw [hcr]; rfl)) (grownBy_putObj' _ D (.deferred none)) (fun r e => by cases e; exact ⟨_, hK', rfl⟩)
    have hr : placeI ys nm = -1 := place_none (unhide hne)
    refine ⟨.int .i64 (-1), ?_, by rw [hr], (hB.setCell (p := ⟨w.heap.size + 1, 0, none⟩) (by simp) _).trans (belowK_b (w := w) (Nat.le_refl _) _ D _ _ (by simp at hD; omega) hK' rfl rfl)⟩
    simp [results, Try.f54, go_sem, hc5]
  case stop =>
    rintro D c pre W hD ⟨k, hk, rfl⟩ ⟨⟨rfl, hne, hbr⟩, hB⟩ hK
    have hcr := hbr.cell
    gi_wp2
    refine ⟨by simp, .inl ⟨_, _, rfl, run_takeDeferred hK, ?_⟩⟩
    have hc5 := cell_kept hcr (grownBy_putObj' _ D (.deferred none)) (fun r e => by cases e; exact ⟨_, hK, rfl⟩)
    obtain ⟨q, x, e, hq, hx⟩ := unhide hne
    have hr : placeI ns nm = (ns.take k).length - 1 := by
      rw [place_some e.symm hq hx, e]; simp
    refine ⟨.int .i64 ((ns.take k).length - 1), ?_, by rw [hr], hB.trans (belowK_b (w := w) (Nat.le_refl _) W D _ _ (by simp at hD; omega) hK rfl rfl)⟩
    simp [results, Try.f54, go_sem] at hc5 ⊢
    simp [hc5]

theorem place_c (g Bs : Nat) (nm : ByteArray) (ns : List Txt) (w : World) (hG : Gives w g Bs ns) :
    Calls Try.prog 54 #[.func (.func g) #[] #[.pointer (some ⟨Bs, 0, none⟩)], .string nm] w fun e W' => e = .returned (.int .i64 (placeI ns nm)) ∧ Below w.heap.size w W' :=
  callsIn_wide.1 (place_in 3 (Nat.le_refl _) g Bs nm ns w hG)

end Go.Proofs.Ytllpigbmkhanjaa
