/-
  What With answers: for every row of texts and every text, in whatever world: a new row that owns the texts of the row, and the text at its place, once; nothing that lay is turned.
-/
import Derived.Test.YthejndgnnlflhaaWith
import Derived.Maps.OwnIn
namespace Go.Proofs.Ythejndgnnlflhaa
open Go.RowKit Go.Shelf

attribute [local go_sem] Oper.semAt_some

theorem info9 : (Try.prog.info? 9).map (fun i => (i.zero, i.size, i.bytes)) = some (some (.string ⟨#[]⟩), 1, 16) := by kernel_rfl

theorem Strs.len {n₀ : Nat} {W : World} {a : Option Addr} {len cap : Nat} {ss : List ByteArray} (h : Strs n₀ W (.slice a len cap) ss) : len = ss.length := by
  rcases h with ⟨_, _, e, rfl⟩ | ⟨b, off, c, e, _⟩
  · simp at e; simp [e]
  · simp at e; exact e.2.1

theorem own_ne {p q : Option Nat} {m B : Nat} (h : p = q ∨ p = some m) (hq : q ≠ some B) (hm : m ≠ B) : p ≠ some B := by
  rcases h with h | h
  · rw [h]; exact hq
  · rw [h]; simpa using hm

set_option maxRecDepth 100000 in
set_option maxHeartbeats 2000000 in
theorem with18_in (n : Nat) (hn : 3 ≤ n) (a : Option Addr) (len cap : Nat) (x : ByteArray) (ss : List ByteArray) (hreach : ss.length * 16 ≤ 140737488351232) (w : World) (hI : Strs w.heap.size w (.slice a len cap) ss) :
    CallsIn Fence.wide n Try.prog 18 #[.slice a len cap, .string x] w fun e W' => ∃ v, e = .returned v ∧ W'.ownsRow w.heap.size 9 1 v (wAll x ss).length ((wAll x ss).map Value.string) ∧ Below w.heap.size w W' := by
  have h1 : 1 ≤ n := by omega
  have hro : Fence.wide.round = none := rfl
  have hlen := hI.len
  have hl1 : (len : Int) + 1 ≤ 8796093021953 := by omega
  obtain ⟨i0, hi, hz0, hz1, hz2⟩ := info_parts info9
  have HL := hide hlen
  clear hlen
  refine callsIn_of_wp_marks Try.func18 rfl trivial ?_ rfl
  simp only [Try.ntmps18, List.size_toArray, List.length_cons, List.length_nil, Nat.reduceAdd, Nat.reduceSub, Array.replicate_succ, Array.replicate_zero, List.push_toArray, List.append_toArray, List.nil_append, List.cons_append]
  gi_wp2_with (first
    | (gi_at_make; refine wpListIn_make_own _ rfl _ _ 30 rfl w.heap.size 9 i0 (.string ⟨#[]⟩) 1 Try.underlying30 hi hz0 hz1 .i64 .i64 _ (len + 1) rfl rfl (by go_num) (by rw [hz2]; omega) (by unfold maxLen; omega) (Nat.le_refl _) ?_; intro w1 hown0 hgrow0)
    | (refine ⟨trivial, ?_⟩; gi_at_call 27; refine (with_in (n - 1) _ _ _ _ _).mono ?_; rintro e w' ⟨rfl, rfl⟩))
  have hsz1 : w.heap.size ≤ w1.heap.size := hgrow0.size
  have bO := Boxed.new w1 30 (.slice (some ⟨w.heap.size, 0, none⟩) 0 (len + 1))
  have bN := Boxed.new (w1.alloc (.cells #[.slice (some ⟨w.heap.size, 0, none⟩) 0 (len + 1)] 30)) 48 (.slice a len cap)
  have bX := Boxed.new ((w1.alloc (.cells #[.slice (some ⟨w.heap.size, 0, none⟩) 0 (len + 1)] 30)).alloc (.cells #[.slice a len cap] 48)) 9 (.string x)
  simp only [World.size_alloc] at bN bX
  have hB1 : Below w.heap.size w w1 := (Below.refl _ _).grown hgrow0 (Nat.le_refl _) (fun k e => by cases e)
  have hB0 : Below w.heap.size w (((w1.alloc (.cells #[.slice (some ⟨w.heap.size, 0, none⟩) 0 (len + 1)] 30)).alloc (.cells #[.slice a len cap] 48)).alloc (.cells #[.string x] 9)) := ((hB1.alloc hsz1 _).alloc (by simp; omega) _).alloc (by simp; omega) _
  refine wpIn_rangeFunc_ownG hro h1 (gf := 30) (lb := #[.pointer (some ⟨w1.heap.size + 1, 0, none⟩), .pointer (some ⟨w1.heap.size + 1 + 1, 0, none⟩)]) rfl trivial (enters_of Try.func30 (by kernel_rfl) rfl)
    (with_stops (n - 1) (by omega) (w1.heap.size + 1) (w1.heap.size + 1 + 1) w.heap.size _ x ss hreach _ (by simp) (by simp) (by simp; omega) (bN.alloc _).cell bX.cell (hI.below hB0)) KeepX.trans
    (fun W l o o' hl h hc hw => ⟨belowK_b (w := w) (Nat.le_refl _) W l o o' (by simp at hl; omega) h hc hw, (grownBy_putObj' W l o').block _ (by simp at hl; have := (Array.getElem?_eq_some_iff.1 h).1; omega) (by simp at hl ⊢; omega)⟩)
    (Below.refl _ _) (fun _ => rfl)
    (fun pre W => (∃ v, Boxed W w1.heap.size 30 v ∧ W.ownsRow w.heap.size 9 1 v pre.length (pre.map Value.string) ∧ v.ownBlock ≠ some (w1.heap.size + 1 + 1)) ∧ (Below w.heap.size w W ∧ w1.heap.size + 1 + 1 < W.heap.size))
    (fun _ _ _ => False)
    (OwnFrom.and (Own.from (holdsRow_own w.heap.size w1.heap.size 30 9 1 (fun pre : List ByteArray => pre.length) (fun pre => pre.map Value.string) (fun _ v => v.ownBlock ≠ some (w1.heap.size + 1 + 1))) _) (OwnFrom.and (ownFrom_below (Nat.le_refl _) (by simp; omega)) (fun s A B row hs hg hr => Nat.lt_of_lt_of_le hs hg.size)))
    (fun _ _ _ _ _ hs _ _ => hs)
    ⟨⟨_, (bO.alloc _).alloc _, ((hown0.alloc _).alloc _).alloc _, by simp [Value.ownBlock]; omega⟩, hB0, by simp⟩
    (fun y => { tmps := #[.slice a len cap, .string x, undef, undef, .slice none 0 0, .pointer (some ⟨w1.heap.size, 0, none⟩), .string y, .slice a len cap, .int .i64 len, .int .i64 (len + 1), .slice (some ⟨w.heap.size, 0, none⟩) 0 (len + 1), .slice a len cap, .string x, .func (.func 30) #[] #[.pointer (some ⟨w1.heap.size + 1, 0, none⟩), .pointer (some ⟨w1.heap.size + 1 + 1, 0, none⟩)], .string y, undef, undef, undef, undef, undef], defers := [] }) ?assign ?body ?done ?stop
  case assign =>
    intro l x W K hK
    gi_wp2
    exact hK
  case body =>
    rintro l pre y W ⟨⟨v, hv, hrow, hvx⟩, hB, hsz⟩ hlt
    have hc := hv.cell
    have hvx := hide hvx
    gi_wp2_with (gi_at_builtin; refine wpListIn_append_own_at _ rfl _ _ 30 rfl w.heap.size 9 i0 (.string ⟨#[]⟩) 1 16 Try.underlying30 hi hz0 hz1 hz2 rfl (by decide) _ _ _ rfl (hrow.alloc _) ⟨W.heap.size, 0, none⟩ 1 1 [.string y] rfl rfl (cell_one_new _ _ _) (by simp [Value.oneCell']) (by unfold maxLen; omega) (by omega) (by have := hB.size; simp; omega) ?_; intro v' w2 hown' hgrow _ hat0; have hat := hide hat0; clear hat0; obtain ⟨g', cap', rfl⟩ := ownsRow_succ hown'; obtain ⟨hv1, hv2, hr2, hk2, hb2⟩ := hv.appended (by decide) hrow hB.size hsz1 hown' hgrow; have hc1 := hv1.cell; have hf1 := hv1.frozen)
    have hbx : (w2.setCell ⟨w1.heap.size, 0, none⟩ (.slice (some ⟨g', 0, none⟩) (pre.length + 1) cap')).heap[w1.heap.size + 1 + 1]? = W.heap[w1.heap.size + 1 + 1]? :=
      (Below.heap_setCell _ _ _ _ (by simp; omega)).trans ((hgrow.block _ (by simp; omega) (fun e => unhide hvx e.symm)).trans (Below.heap_alloc _ _ _ hsz))
    exact ⟨hk2.from _, ⟨hb2, hbx⟩, ⟨_, hv2, by simpa using hr2, own_ne (unhide hat) (unhide hvx) (by simp; omega)⟩, hB.trans hb2, Nat.lt_of_lt_of_le hsz hb2.size⟩
  case done =>
    rintro D ys W hD rfl ⟨⟨v, hv, hrow, hnil⟩, hB, hsz⟩ hK
    have hc := hv.cell
    gi_wp2
    refine ⟨by simp, .inl ⟨_, _, rfl, run_takeDeferred hK, ?_⟩⟩
    exact ⟨_, results_tmp rfl _ _ _, v, rfl, ownsRow_putObj hrow _ hK rfl, hB.trans (belowK_b (w := w) (Nat.le_refl _) W D _ _ (by simp at hD; omega) hK rfl rfl)⟩
  case stop =>
    rintro D c pre W _ _ h _
    exact h.elim

end Go.Proofs.Ythejndgnnlflhaa
