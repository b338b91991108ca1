/-
  What package parse's read does: the reader of a text's words.
-/
import Derived.Test.YtmhpakhnclkenaaGreatDoorParW
import Derived.Test.YtmhpakhnclkenaaGreatDoorFaces
namespace Go.Proofs.YtmhpakhnclkenaaGreatDoor
open Go.RowKit Go.Shelf

attribute [local go_sem] Oper.semAt_some

theorem parseIntB_bound {l : List UInt8} {v : Int} (h : Lib.parseIntB 64 l = .ok v) : -9223372036854775808 ≤ v ∧ v ≤ 9223372036854775807 := by
  unfold Lib.parseIntB at h
  cases l with
  | nil => cases h
  | cons c r =>
    simp only at h
    split at h
    · cases h
    · cases h
    · split at h
      · cases h
      · split at h
        · cases h
        · cases h
          split <;> omega
theorem firstW_n {l : List UInt8} {k : Int} {t : List UInt8} {n : Int} {len : Nat} (h : firstW l = .word k t n len) : -9223372036854775808 ≤ n ∧ n ≤ 9223372036854775807 := by
  unfold firstW at h
  split at h
  · cases h
  · split at h
    · unfold nameW at h; split at h
      · cases h; decide
      · cases h
    · split at h
      · unfold greatW at h; split at h
        · cases h; decide
        · cases h
      · split at h
        · unfold numW at h; split at h
          · rename_i v hv
            cases h; exact parseIntB_bound hv
          · cases h
        · split at h
          · unfold textW at h
            split at h
            · cases h
            · split at h
              · cases h; decide
              · cases h
          · unfold signW at h
            split at h
            · cases h; decide
            · cases h
theorem toks_n : ∀ (f a : Nat) (l : List UInt8) (x : Wd), x ∈ toksL f a l → ∀ k t n p, x = .word k t n p → -9223372036854775808 ≤ n ∧ n ≤ 9223372036854775807
  | 0, _, _, x, h, _, _, _, _, _ => by simp [toksL] at h
  | f + 1, a, l, x, h, k, t, n, p, e => by
    cases l with
    | nil => simp [toksL] at h
    | cons c r =>
      simp only [toksL] at h
      split at h
      · exact toks_n f _ _ x h k t n p e
      · split at h
        · rw [List.mem_singleton] at h; rw [h] at e; cases e
        · rename_i k' t' n' len hw
          rw [List.mem_cons] at h
          rcases h with h | h
          · rw [h] at e; cases e
            exact firstW_n hw
          · exact toks_n f _ _ x h k t n p e
theorem wordsP_n {s : ByteArray} {w : Pw} (h : w ∈ wordsP s) : -9223372036854775808 ≤ w.n ∧ w.n ≤ 9223372036854775807 := by
  obtain ⟨i, hi⟩ := List.mem_iff_getElem?.1 h
  obtain ⟨k, t, n, p, hc, rfl, _⟩ := wordsP_at hi
  exact toks_n _ _ _ _ (List.mem_of_getElem? hc) k t n p rfl

set_option maxHeartbeats 1000000 in
theorem written_c (v : Value) (hv : ∃ a n c, v = .slice a n c) (s : ByteArray) (W : World) :
    Calls Tryz.prog 42 #[v, .string s] W fun r W' => r = .returned (.func (.func 70) #[] #[.pointer (some ⟨W.heap.size, 0, none⟩), .pointer (some ⟨W.heap.size + 1, 0, none⟩)]) ∧ Below W.heap.size W W' ∧ Box W' W.heap.size 59 #[v] ∧ Box W' (W.heap.size + 1) 9 #[.string s] := by
  obtain ⟨a, n, c, rfl⟩ := hv
  have b0 : Below W.heap.size W ((W.alloc (.cells #[.slice a n c] 59)).alloc (.cells #[.string s] 9)) := ((Below.refl _ _).alloc (Nat.le_refl _) _).alloc (by simp) _
  have x0 : Box ((W.alloc (.cells #[.slice a n c] 59)).alloc (.cells #[.string s] 9)) W.heap.size 59 #[.slice a n c] := (Box.new _ _ _).alloc _
  have x1 := box_next W (.cells #[.slice a n c] 59) 9 #[.string s]
  go_enter Tryz.func42, Tryz.ntmps42
  go_wp2_with fail
  go_ret
  exact ⟨rfl, b0, x0, x1⟩

theorem infoPw : (Tryz.prog.info? 74).map (fun i => (i.zero, i.size, i.bytes)) = some (some (.agg #[.int .i64 0, .string ⟨#[]⟩, .int .i64 0, .int .i64 0]), 4, 40) := by kernel_rfl
def newsP (l : List Pw) : List Value := l.flatMap fun w => w.cs.toList
theorem newsP_append (l k : List Pw) : newsP (l ++ k) = newsP l ++ newsP k := by simp [newsP]
theorem newsP_len (l : List Pw) : (newsP l).length = l.length * 4 := by
  induction l with
  | nil => rfl
  | cons x r ih => rw [newsP, List.flatMap_cons, List.length_append, show (r.flatMap fun w => w.cs.toList) = newsP r from rfl, ih]; simp; omega
theorem newsP_at (l : List Pw) : ∀ (j : Nat) x, l[j]? = some x → ∀ i, i < 4 → (newsP l)[j * 4 + i]? = x.cs[i]? := by
  induction l with
  | nil => intro j x hx; simp at hx
  | cons y r ih =>
    intro j x hx i hi
    rw [newsP, List.flatMap_cons]
    cases j with
    | zero =>
      simp at hx; subst hx
      rw [List.getElem?_append_left (by simp; omega)]
      simp
    | succ j =>
      rw [List.getElem?_append_right (by simp; omega)]
      have := ih j x (by simpa using hx) i hi
      rw [← this]
      congr 1
      simp; omega
theorem newsP_one (l : List Pw) : ∀ u ∈ newsP l, u.oneCell' = true := by
  intro u hu
  simp only [newsP, List.mem_flatMap] at hu
  obtain ⟨x, -, hx⟩ := hu
  simp only [List.mem_cons, List.not_mem_nil, or_false] at hx
  rcases hx with h | h | h | h <;> subst h <;> rfl
/-- An owned row of words. -/
theorem pws_own {W : World} {base n B : Nat} {a : Option Addr} {c : Nat} {l : List Pw} (h : W.ownsRow base 74 4 (.slice a l.length c) l.length (newsP l)) (hB : B < base) (hn : W.heap.size ≤ n) : Pws n B W a l := by
  rcases h.2 with ⟨e, h0⟩ | ⟨g, cap', cur, e, hb, hg, hr⟩
  · refine .inl (List.eq_nil_of_length_eq_zero ?_)
    simp only [Value.slice.injEq] at e
    exact e.2.1
  · simp only [Value.slice.injEq] at e
    obtain ⟨rfl, -, rfl⟩ := e
    refine .inr ⟨g, 0, rfl, by omega, Nat.lt_of_lt_of_le (Array.getElem?_eq_some_iff.1 hg).1 hn, fun j x hx i u hu => ?_⟩
    have hj := (List.getElem?_eq_some_iff.1 hx).1
    have h4 : i < 4 := by have := (Array.getElem?_eq_some_iff.1 hu).1; simpa using this
    rw [Nat.zero_add, h.cellAt (j * 4 + i) (by omega), newsP_at l j x hx i h4]
    exact hu

/-- Ahead of a round of read: the reader so far. -/
def RdJ (n₀ B : Nat) (W : World) (ev : Value) (pre : List (Pw × ByteArray)) (V : World) : Prop :=
  Below W.heap.size W V ∧ n₀ ≤ V.heap.size ∧ Box V (B + 1) 56 #[.pointer (some ⟨B, 0, none⟩)] ∧ ∃ a c, Box V B 61 #[.slice a pre.length c, .int .i64 0, ev] ∧ V.ownsRow n₀ 74 4 (.slice a pre.length c) pre.length (newsP (pre.map fixW))
theorem RdJ.own {n₀ B : Nat} {W : World} {ev : Value} {m : Nat} (hm : W.heap.size ≤ m) : OwnP okN m (RdJ n₀ B W ev) := fun pre V U row h hg hr => by
  obtain ⟨h0, hz, h1, a, c, h2, h3⟩ := h
  have hs := sm_grown hg fun r e => (hr r e).2
  exact ⟨h0.grown hg h0.size (fun k e => Nat.le_trans hm (hr k e).1), Nat.le_trans hz hg.size, h1.sm hs, a, c, h2.sm hs, own_sm hs h3⟩

/-- A round of read under way: its word w lies in the box P6, the reader's words as they came. -/
structure RdE (n₀ B : Nat) (W V : World) (ev : Value) (pre : List (Pw × ByteArray)) (ra : Option Addr) (rc P6 : Nat) (w : Pw) (U : World) : Prop where
  bel : Below W.heap.size W U
  kf : KeepsFrom n₀ V U
  kp : KpX n₀ B V U
  sz : n₀ ≤ U.heap.size
  px : Box U (B + 1) 56 #[.pointer (some ⟨B, 0, none⟩)]
  bx : Box U B 61 #[.slice ra pre.length rc, .int .i64 0, ev]
  ow : U.ownsRow n₀ 74 4 (.slice ra pre.length rc) pre.length (newsP (pre.map fixW))
  lt : ∀ g, (Value.slice ra pre.length rc).ownBlock = some g → g < P6
  wx : Box U P6 74 w.cs
  hP : n₀ ≤ P6
theorem RdE.up {n₀ B : Nat} {W V : World} {ev : Value} {pre : List (Pw × ByteArray)} {ra : Option Addr} {rc P6 : Nat} {w : Pw} {U U' : World} (h : RdE n₀ B W V ev pre ra rc P6 w U) (hW : W.heap.size ≤ n₀) (b : Below U.heap.size U U') : RdE n₀ B W V ev pre ra rc P6 w U' :=
  ⟨h.bel.trans (b.mono (Nat.le_trans hW h.sz)), h.kf.trans (keeps_bel b), h.kp.trans (.bel h.sz b), Nat.le_trans h.sz b.size, h.px.on b h.px.lt, h.bx.on b h.bx.lt, owns_below' h.ow b, h.lt, h.wx.on b h.wx.lt, h.hP⟩
theorem RdE.set0 {n₀ B : Nat} {W V : World} {ev : Value} {pre : List (Pw × ByteArray)} {ra : Option Addr} {rc P6 : Nat} {w : Pw} {U : World} (h : RdE n₀ B W V ev pre ra rc P6 w U) (hW : W.heap.size ≤ n₀) (hB : B + 1 < n₀) (k : Int) :
    RdE n₀ B W V ev pre ra rc P6 ⟨k, w.t, w.n, w.p⟩ (U.setCell ⟨P6, 0, none⟩ (.int .i64 k)) := by
  have hP := h.hP
  exact ⟨h.bel.setCell (by show W.heap.size ≤ P6; omega) _, h.kf.trans (keeps_set h.wx 0 _), h.kp.trans ⟨by simp, fun g o h1 _ h3 _ => (setCell_block _ _ _ (by show P6 ≠ g; omega)).trans h3⟩, by simpa using h.sz,
    h.px.other _ _ (by show P6 ≠ B + 1; omega), h.bx.other _ _ (by show P6 ≠ B; omega), owns_keep h.ow (fun g hg _ => setCell_block _ _ _ (by have := h.lt g hg; show P6 ≠ g; omega)), h.lt, h.wx.set 0 _, hP⟩
theorem rd_grow {n₀ B : Nat} {W V : World} {ev : Value} {pre : List (Pw × ByteArray)} {ra : Option Addr} {rc P6 : Nat} {w : Pw} {U U5 : World} {v5 : Value} (h : RdE n₀ B W V ev pre ra rc P6 w U) (hW : W.heap.size ≤ n₀) (hB : B + 1 < n₀) (hWB : W.heap.size ≤ B) {x : Pw × ByteArray} (hx : fixW x = w)
    (ho : U5.ownsRow n₀ 74 4 v5 (pre.length + 1) (newsP (pre.map fixW) ++ w.cs.toList)) (hg : U.grownBy U5 (Value.slice ra pre.length rc).ownBlock) :
    ∃ a5 c5, v5 = .slice a5 (pre.length + 1) c5 ∧ Box U5 (B + 1) 56 #[.pointer (some ⟨B, 0, none⟩)] ∧ Box U5 B 61 #[.slice ra pre.length rc, .int .i64 0, ev] ∧ Box U5 P6 74 w.cs ∧
      KeepsFrom n₀ V (U5.setCell ⟨B, 0, none⟩ v5) ∧ KpX n₀ B V (U5.setCell ⟨B, 0, none⟩ v5) ∧ RdJ n₀ B W ev (pre ++ [x]) (U5.setCell ⟨B, 0, none⟩ v5) := by
  obtain ⟨a5, c5, rfl⟩ := owns_form ho
  have hlo : ∀ k, (Value.slice ra pre.length rc).ownBlock = some k → n₀ ≤ k := fun k e => (h.ow.lt k e).1
  have hl5 := ho.lt
  have px5 : Box U5 (B + 1) 56 #[.pointer (some ⟨B, 0, none⟩)] := (hg.block _ h.px.lt (fun e => by have := hlo _ e.symm; omega)).trans h.px
  have bx5 : Box U5 B 61 #[.slice ra pre.length rc, .int .i64 0, ev] := (hg.block _ h.bx.lt (fun e => by have := hlo _ e.symm; omega)).trans h.bx
  have wx5 : Box U5 P6 74 w.cs := (hg.block _ h.wx.lt (fun e => by have := h.lt _ e.symm; omega)).trans h.wx
  have kf5 := h.kf.trans (keeps_own (m := n₀) h.ow hg)
  have kp5 : KpX n₀ B V U5 := h.kp.trans ⟨hg.size, fun g o h1 _ h3 _ => (hg.block _ (Array.getElem?_eq_some_iff.1 h3).1 (fun e => by have := hlo _ e.symm; omega)).trans h3⟩
  have b5 := h.bel.grown hg h.bel.size (fun k e => Nat.le_trans hW (hlo k e))
  refine ⟨a5, c5, rfl, px5, bx5, wx5, kf5.trans (keeps_set bx5 0 _), kp5.trans ⟨by simp, fun g o h1 h2 h3 _ => (setCell_block _ _ _ (by show B ≠ g; omega)).trans h3⟩, b5.setCell (by show W.heap.size ≤ B; omega) _, ?_, px5.other _ _ (by show B ≠ B + 1; omega), a5, c5, ?_, ?_⟩
  · simpa using Nat.le_trans h.sz hg.size
  · have := bx5.set 0 (.slice a5 (pre.length + 1) c5)
    simpa using this
  · have o6 : (U5.setCell ⟨B, 0, none⟩ (.slice a5 (pre.length + 1) c5)).ownsRow n₀ 74 4 (.slice a5 (pre.length + 1) c5) (pre.length + 1) (newsP (pre.map fixW) ++ w.cs.toList) := owns_keep ho (fun g hg' _ => setCell_block _ _ _ (by have := (hl5 g hg').1; show B ≠ g; omega))
    rw [List.map_append, newsP_append, List.length_append]
    simpa [newsP, hx] using o6

set_option maxRecDepth 100000 in
set_option maxHeartbeats 8000000 in
theorem read_core (s : ByteArray) (hs : s.size ≤ 1000000) (W : World) (hV : Vars W) (hS : VarsS W) (ev : Value) (hev : ev = errO (errL 0 (cutL s.data.toList))) (hcase : ev = .nilIface ∨ ∃ x, ev = .iface 49 (.int .i64 x)) :
    Calls Tryz.prog 18 #[.string s] W fun r W' => ∃ B, r = .returned (.pointer (some ⟨B, 0, none⟩)) ∧ W.heap.size ≤ B ∧ RS W'.heap.size B W' (readP s) ∧ Below W.heap.size W W' := by
  have cC := cut10_c s W hV (by omega)
  rw [← hev] at cC
  replace cC := hide cC
  replace hev := hide hev
  have hmx : Tryz.prog.follows .mixedOrders = true := by kernel_rfl
  obtain ⟨i0, hi0, hz0, hz1, hz2⟩ := info_parts infoPw
  have hwl : (wordsL s.data.toList).length = (wordsP s).length := by rw [wordsP, List.length_map]
  have hw5 := wordsP_len s
  have hTl : (pairsP s).length = (wordsP s).length := by simp [pairsP]
  have hzS := hS.size
  have hzV := hV.size
  rcases hcase with rfl | ⟨ex, rfl⟩
  · skip
    refine callsIn_wide.1 (show CallsIn Fence.wide 5 _ _ _ _ _ from ?_)
    refine callsIn_of_wp_marks Tryz.func18 rfl trivial ?_ rfl
    simp only [Tryz.ntmps18, List.size_toArray, List.length_cons, List.length_nil, Nat.reduceAdd, Nat.reduceSub, Array.replicate_succ, Array.replicate_zero, List.push_toArray, List.append_toArray, List.nil_append, List.cons_append]
    have cC1 := hide (callsIn_wide.2 (unhide cC) : CallsIn Fence.wide 4 _ _ _ _ _)
    gi_wp2_with fail
    refine ⟨trivial, ?_⟩
    refine (unhide cC1).mono ?_
    rintro r W1 ⟨v, rfl, ho, b1⟩
    clear cC cC1
    obtain ⟨a, cap, rfl⟩ := owns_form ho
    rw [hwl] at ho ⊢
    obtain ⟨B, hB⟩ : ∃ B, B = W1.heap.size := ⟨_, rfl⟩
    obtain ⟨W2, hW2⟩ : ∃ W2, W2 = (W1.alloc (.cells #[.slice none 0 0, .int .i64 0, .nilIface] 61)).alloc (.cells #[.pointer (some ⟨B, 0, none⟩)] 56) := ⟨_, rfl⟩
    have b2 : Below W1.heap.size W1 W2 := by rw [hW2]; exact ((Below.refl _ _).alloc (Nat.le_refl _) _).alloc (by simp) _
    have x2 : Box W2 B 61 #[.slice none 0 0, .int .i64 0, .nilIface] := by rw [hW2, hB]; exact (Box.new _ _ _).alloc _
    have p2 : Box W2 (B + 1) 56 #[.pointer (some ⟨B, 0, none⟩)] := by rw [hW2, hB]; exact box_next _ _ _ _
    have ho2 := owns_below' ho b2
    have hWB : W.heap.size ≤ B := by rw [hB]; exact b1.size
    have b12 := b1.trans (b2.mono b1.size)
    have hgB : ∀ g, Value.ownBlock (.slice a (wordsP s).length cap) = some g → g < B := fun g e => by rw [hB]; exact (ho.lt g e).2
    gi_upto_region 3 with fail
    rw [← hB, ← hW2]
    have cQ := hide (callsIn_wide.2 (written_c (.slice a (wordsP s).length cap) ⟨_, _, _, rfl⟩ s W2) : CallsIn Fence.wide 4 _ _ _ _ _)
    clear hW2 hB ho b1 b2
    have HO := hide ho2
    have X2 := hide x2
    have P2 := hide p2
    have hp2l := p2.lt
    clear ho2 x2 p2
    gi_wp2_with fail
    refine ⟨trivial, ?_⟩
    refine (unhide cQ).mono ?_
    rintro r W4 ⟨rfl, hb4, y1, y2⟩
    clear cQ
    obtain ⟨D1, hD1⟩ : ∃ D1, D1 = W2.heap.size := ⟨_, rfl⟩
    rw [← hD1] at y1 y2 hp2l ⊢
    have hl4 := y2.lt
    have x4 := (unhide X2).on hb4 (unhide X2).lt
    have p4 := (unhide P2).on hb4 (unhide P2).lt
    have ho4 := owns_below' (unhide HO) hb4
    have hcells : ∃ g, (0 < (wordsP s).length → a = some ⟨g, 0, none⟩) ∧ (0 < (wordsP s).length → g < B) ∧ ∀ (j : Nat) w, (wordsP s)[j]? = some w → ∀ (i : Nat) u, w.cs[i]? = some u → W4.cell? ⟨g, 0 + j * 4 + i, none⟩ = some u := by
      rcases ho4.2 with ⟨e, h0⟩ | ⟨g, cap', cur, e, hb, hg, hr⟩
      · exact ⟨0, fun h => by omega, fun h => by omega, fun j w hw => by have := (List.getElem?_eq_some_iff.1 hw).1; omega⟩
      · simp only [Value.slice.injEq] at e
        obtain ⟨rfl, -, rfl⟩ := e
        refine ⟨g, fun _ => rfl, fun _ => hgB g rfl, fun j w hw i u hu => ?_⟩
        have hj := (List.getElem?_eq_some_iff.1 hw).1
        have h4 : i < 4 := by have := (Array.getElem?_eq_some_iff.1 hu).1; simpa using this
        rw [Nat.zero_add, ho4.cellAt (j * 4 + i) (by omega)]
        exact cells_wordsP s j w hw i u hu
    obtain ⟨g, hga, hgb, hgc⟩ := hcells
    have b04 := b12.trans (hb4.mono b12.size)
    have told := written_told W4.heap.size B D1 (D1 + 1) g 0 cap a s (by omega) (wordsP s) (by omega) (endP' s) (pairsP s) hTl (fun i w hw => by rw [pairsP, List.getElem?_mapIdx, hw]; rfl)
      (endP_facts s) (endP_next s) (endP_last s) W4 (Nat.le_refl _) (by omega) hl4 (fun h => by have := hgb h; omega) (by omega) (by omega) (fun h => by have := hgb h; omega) hga y1 y2 hgc
    have J0 : RdJ W4.heap.size B W .nilIface [] W4 := ⟨b04, Nat.le_refl _, p4, none, 0, x4, World.ownsRow_nil _ _ _ _⟩
    have told' := hide told
    replace J0 := hide J0
    clear told hgc hga hgb x4 p4 ho4 y1 y2 HO X2 P2 hb4 b12 hD1 hwl
    gi_wp2_with fail
    refine wpIn_rangeFunc_told (ok := okN) (fun o h => h) rfl (by decide) (gf := 70) (lb := #[.pointer (some ⟨D1, 0, none⟩), .pointer (some ⟨D1 + 1, 0, none⟩)]) rfl trivial (enters_of Tryz.func70 (by kernel_rfl) rfl)
      (unhide told') KpX.trans (fun W' l' o' o'' hl h hc hw => KpX.put W' h hc o'') (Below.refl _ _) (fun _ => rfl)
      (RdJ W4.heap.size B W .nilIface) (fun _ _ _ => False) (RdJ.own (by omega)) (fun c => fun _ _ _ _ hs _ _ => hs) (unhide J0)
      (fun pre x a1 V => (∃ rest, pairsP s = pre ++ x :: rest) ∧ ∃ P6 rv, W4.heap.size ≤ P6 ∧ Box V B 61 #[rv, .int .i64 0, .nilIface] ∧ (∀ g, rv.ownBlock = some g → g < P6) ∧ Box V P6 74 x.1.cs ∧ a1 = { tmps := #[.string s, undef, .pointer none, .slice a (wordsP s).length cap, .nilIface, .pointer (some ⟨B + 1, 0, none⟩), .pointer (some ⟨P6, 0, none⟩), .string x.2, .tuple #[.slice a (wordsP s).length cap, .nilIface], .string s, .tuple #[.slice a (wordsP s).length cap, .nilIface], .slice a (wordsP s).length cap, .nilIface, .nilIface, .agg #[.slice none 0 0, .int .i64 0, .nilIface], .pointer (some ⟨B, 0, none⟩), .slice a (wordsP s).length cap, .string s, .func (.func 70) #[] #[.pointer (some ⟨D1, 0, none⟩), .pointer (some ⟨D1 + 1, 0, none⟩)], x.1.v, .string x.2, undef, undef, undef, undef, undef, undef, undef, undef, undef, undef, undef, undef, undef, undef, undef, undef, undef, undef, undef, undef, undef, undef], defers := [] }) (fun pre x a1 => fun _ A C row hs hg hr => ⟨hs.1, by obtain ⟨P6, rv, h1, h2, h3, h4, h5⟩ := hs.2; have hh := sm_grown hg fun r e => (hr r e).2; exact ⟨P6, rv, h1, h2.sm hh, h3, h4.sm hh, h5⟩⟩) ?assign ?body ?done ?stop
    case assign =>
      rintro l2 pre x V K hi he hK
      gi_wp2_with fail
      have bal : Below V.heap.size V (V.alloc (.cells #[.int .i64 x.1.k, .string x.1.t.1, .int .i64 x.1.n, .int .i64 x.1.p] 74)) := (Below.refl _ _).alloc (Nat.le_refl _) _
      have hz4 := hi.2.1
      exact hK _ _ (keeps_bel bal) (KpX.bel hi.2.1 bal) ((RdJ.own (Nat.le_refl _)).alloc _ hi) (by
        obtain ⟨-, -, -, a, c, h2, h3⟩ := hi
        exact ⟨he, V.heap.size, _, hz4, h2.alloc _, fun g e => (h3.lt g e).2, Box.new _ _ _, rfl⟩)
    case body =>
      rintro l2 pre x a1 V ⟨bWV, hz4, p1, ra, rc, hx, ho⟩ ⟨⟨rest, hel⟩, P6, rv, hP6, xr, hrv, xb, rfl⟩
      have erv : rv = .slice ra pre.length rc := by
        have := xr.symm.trans hx
        simp at this; exact this
      subst erv
      have E0 : RdE W4.heap.size B W V .nilIface pre ra rc P6 x.1 V := ⟨bWV, .refl _ _, .refl _ _ _, hz4, p1, hx, ho, hrv, xb, hP6⟩
      have hS1 : VarsS V := hS.on bWV
      have hnb := wordsP_n (s := s) (w := x.1) (by
        have hm : x ∈ pairsP s := by rw [hel]; simp
        obtain ⟨i, hi⟩ := List.mem_iff_getElem?.1 hm
        rw [pairsP, List.getElem?_mapIdx] at hi
        obtain ⟨w, hw, e⟩ := Option.map_eq_some_iff.1 hi
        rw [← e]
        exact List.mem_of_getElem? hw)
      have hpre : pre.length ≤ 500 := by have := congrArg List.length hel; rw [hTl] at this; simp at this; omega
      have hxz : P6 < V.heap.size := xb.lt
      have hWz := b04.size
      have hBz : B + 1 < W4.heap.size := by omega
      clear p1 xr hx hrv xb hxz bWV told' J0
      by_cases hk : x.1.k = 2
      · obtain ⟨q0, q1, q2, q3⟩ := E0.wx.four
        rw [hk] at q0
        have cN := hide (CallsIn.inRound l2 (callsIn_wide.2 (number_c ⟨2, x.1.t, x.1.n, x.1.p⟩ V)) : CallsIn (Fence.wide.inRound l2) 2 Tryz.prog 44 _ V _)
        obtain ⟨vt, hvt⟩ : ∃ vt, vt = valB 1 x.1.n ⟨#[]⟩ := ⟨_, rfl⟩
        have EH := hide E0
        have HO := hide ho
        clear E0 ho
        replace hvt := hide hvt
        gi_wp2_with fail
        refine ⟨trivial, ?_⟩
        refine (unhide cN).mono ?_
        rintro r W5 ⟨rfl, b5⟩
        have E5 := (unhide EH).up hWz b5
        have cF0 := faceV_c 1 x.1.n ⟨#[]⟩ hnb.1 hnb.2 (by decide) W5 (hS1.on b5)
        rw [← unhide hvt] at cF0
        have cF := hide (CallsIn.inRound l2 (callsIn_wide.2 cF0) : CallsIn (Fence.wide.inRound l2) 2 Tryz.prog 43 _ W5 _)
        replace E5 := hide E5
        clear cN b5 q0 q1 q2 q3 EH HO cF0
        gi_wp2_with fail
        refine ⟨trivial, ?_⟩
        refine (unhide cF).mono ?_
        rintro r W6 ⟨rfl, b6⟩
        have E6 := (unhide E5).up hWz b6
        clear cF E5 b6
        rcases hbq : (x.2.toList == vt.toList) with _ | _
        · have hfx : fixW x = ⟨0, x.1.t, x.1.n, x.1.p⟩ := by rw [fixW, hk, ← unhide hvt, hbq]; rfl
          clear hvt
          obtain ⟨q0, q1, q2, q3⟩ := E6.wx.four
          have hf0 := E6.wx.frz 0
          have E7 := hide (E6.set0 hWz hBz 0)
          clear E6
          gi_upto_region 8 with fail
          generalize W6.setCell ⟨P6, 0, none⟩ (.int .i64 0) = U at E7 ⊢
          clear q0 q1 q2 q3 hf0 hbq
          have E := unhide E7
          clear E7
          gi_wp2_with fail
          obtain ⟨U', hU'⟩ : ∃ U', U' = ({ heap := U.heap, tape := U.tape, drawn := U.drawn + 1, os := U.os, output := U.output } : World) := ⟨_, rfl⟩
          have bU : Below U.heap.size U U' := by rw [hU']; exact (Below.refl _ _).drew
          have E8 := E.up hWz bU
          have cD : Box U' (B + 1) 56 #[.pointer (some ⟨B, 0, none⟩)] ∧ Box U' B 61 #[.slice ra pre.length rc, .int .i64 0, .nilIface] ∧ Box U' P6 74 #[.int .i64 0, .string x.1.t.1, .int .i64 x.1.n, .int .i64 x.1.p] := ⟨E8.px, E8.bx, E8.wx⟩
          refine wpIn_region_plain hmx (by kernel_rfl) ?no (wpAny_of_Z (z := 10) (C := fun w' => Box w' (B + 1) 56 #[.pointer (some ⟨B, 0, none⟩)] ∧ Box w' B 61 #[.slice ra pre.length rc, .int .i64 0, .nilIface] ∧ Box w' P6 74 #[.int .i64 0, .string x.1.t.1, .int .i64 x.1.n, .int .i64 x.1.p]) _ _ _ _ ?_)
          case no => exact fun ⟨a, w, h⟩ => h
          rw [← hU']
          replace E8 := hide E8
          clear hU' E bU
          refine wpAnyZ_reads 0 cD (by kernel_rfl) (by kernel_rfl) (by kernel_rfl) (by kernel_rfl) (fun d _ _ _ _ h => by cases d <;> exact h) (fun oi ho K hK => ?_)
          simp only [List.getElem?_toArray, List.getElem?_cons_zero, Option.some.injEq] at ho
          subst ho
          rw [if_pos (by kernel_rfl)]
          refine ⟨.pointer (some ⟨B, 0, none⟩), fun w' hw' => ?_, hK _ ?_⟩
          · have q0 := hw'.1.at 0 rfl; have q1 := hw'.2.1.at 0 rfl; have q2 := hw'.2.2.at 0 rfl; have q3 := hw'.2.2.at 1 rfl; have q4 := hw'.2.2.at 2 rfl; have q5 := hw'.2.2.at 3 rfl
            go_simp
          clear hK K
          refine wpAnyZ_reads 1 cD (by kernel_rfl) (by kernel_rfl) (by kernel_rfl) (by kernel_rfl) (fun d _ _ _ _ h => by cases d <;> exact h) (fun oi ho K hK => ?_)
          simp only [List.getElem?_toArray, List.getElem?_cons_succ, List.getElem?_cons_zero, Option.some.injEq] at ho
          subst ho
          rw [if_pos (by kernel_rfl)]
          refine ⟨.pointer (some ⟨B, 0, none⟩), fun w' hw' => ?_, hK _ ?_⟩
          · have q0 := hw'.1.at 0 rfl; have q1 := hw'.2.1.at 0 rfl; have q2 := hw'.2.2.at 0 rfl; have q3 := hw'.2.2.at 1 rfl; have q4 := hw'.2.2.at 2 rfl; have q5 := hw'.2.2.at 3 rfl
            go_simp
          clear hK K
          refine wpAnyZ_reads 2 cD (by kernel_rfl) (by kernel_rfl) (by kernel_rfl) (by kernel_rfl) (fun d _ _ _ _ h => by cases d <;> exact h) (fun oi ho K hK => ?_)
          simp only [List.getElem?_toArray, List.getElem?_cons_succ, List.getElem?_cons_zero, Option.some.injEq] at ho
          subst ho
          rw [if_pos (by kernel_rfl)]
          refine ⟨.pointer (some ⟨B, 0, none⟩), fun w' hw' => ?_, hK _ ?_⟩
          · clear hw'
            go_simp
          clear hK K
          refine wpAnyZ_reads 3 cD (by kernel_rfl) (by kernel_rfl) (by kernel_rfl) (by kernel_rfl) (fun d _ _ _ _ h => by cases d <;> exact h) (fun oi ho K hK => ?_)
          simp only [List.getElem?_toArray, List.getElem?_cons_succ, List.getElem?_cons_zero, Option.some.injEq] at ho
          subst ho
          rw [if_pos (by kernel_rfl)]
          refine ⟨.pointer (some ⟨B, 0, none⟩), fun w' hw' => ?_, hK _ ?_⟩
          · clear hw'
            go_simp
          clear hK K
          refine wpAnyZ_reads 4 cD (by kernel_rfl) (by kernel_rfl) (by kernel_rfl) (by kernel_rfl) (fun d _ _ _ _ h => by cases d <;> exact h) (fun oi ho K hK => ?_)
          simp only [List.getElem?_toArray, List.getElem?_cons_succ, List.getElem?_cons_zero, Option.some.injEq] at ho
          subst ho
          rw [if_pos (by kernel_rfl)]
          refine ⟨.slice ra pre.length rc, fun w' hw' => ?_, hK _ ?_⟩
          · have q0 := hw'.1.at 0 rfl; have q1 := hw'.2.1.at 0 rfl; have q2 := hw'.2.2.at 0 rfl; have q3 := hw'.2.2.at 1 rfl; have q4 := hw'.2.2.at 2 rfl; have q5 := hw'.2.2.at 3 rfl
            go_simp
          clear hK K
          refine wpAnyZ_reads 5 cD (by kernel_rfl) (by kernel_rfl) (by kernel_rfl) (by kernel_rfl) (fun d _ _ _ _ h => by cases d <;> exact h) (fun oi ho K hK => ?_)
          simp only [List.getElem?_toArray, List.getElem?_cons_succ, List.getElem?_cons_zero, Option.some.injEq] at ho
          subst ho
          rw [if_pos (by kernel_rfl)]
          refine ⟨.agg #[.int .i64 0, .string x.1.t.1, .int .i64 x.1.n, .int .i64 x.1.p], fun w' hw' => ?_, hK _ ?_⟩
          · have q0 := hw'.1.at 0 rfl; have q1 := hw'.2.1.at 0 rfl; have q2 := hw'.2.2.at 0 rfl; have q3 := hw'.2.2.at 1 rfl; have q4 := hw'.2.2.at 2 rfl; have q5 := hw'.2.2.at 3 rfl
            go_simp
          clear hK K
          refine wpAnyZ_calls 6 (by kernel_rfl) (fun oi ho K hK => ?_)
          simp only [List.getElem?_toArray, List.getElem?_cons_succ, List.getElem?_cons_zero, Option.some.injEq] at ho
          subst ho
          go_simp
          have b2 : Below U'.heap.size U' (U'.alloc (.cells #[.int .i64 0, .string x.1.t.1, .int .i64 x.1.n, .int .i64 x.1.p] 74)) := (Below.refl _ _).alloc (Nat.le_refl _) _
          have E9 := (unhide E8).up hWz b2
          refine hK _ _ (.inr ⟨E9.px, E9.bx, E9.wx⟩) ?_
          clear hK K
          obtain ⟨u, eu⟩ : ∃ u, u = U'.alloc (.cells #[.int .i64 0, .string x.1.t.1, .int .i64 x.1.n, .int .i64 x.1.p] 74) := ⟨_, rfl⟩
          have hnb' : Box u U'.heap.size 74 #[.int .i64 0, .string x.1.t.1, .int .i64 x.1.n, .int .i64 x.1.p] := by rw [eu]; exact Box.new _ _ _
          rw [← eu] at b2 E9 ⊢
          have hoU := E9.ow
          have hszu := E9.sz
          clear eu b2
          refine wpAnyZ_calls 7 (by kernel_rfl) (fun oi ho K hK => ?_)
          simp only [List.getElem?_toArray, List.getElem?_cons_succ, List.getElem?_cons_zero, Option.some.injEq] at ho
          subst ho
          refine step_own u (by rfl) (.tmp 36) (.tmp 38) 59 (by rfl) W4.heap.size 74 i0 (.agg #[.int .i64 0, .string ⟨#[]⟩, .int .i64 0, .int .i64 0]) 4 40 Tryz.underlying59 hi0 hz0 hz1 hz2 (by rfl) (by decide) (.slice ra pre.length rc) pre.length (newsP (pre.map fixW)) ?q1 hoU ⟨U'.heap.size, 0, none⟩ 1 1 #[.int .i64 0, .string x.1.t.1, .int .i64 x.1.n, .int .i64 x.1.p].toList ?q2 (by rfl) (news_box hnb') (fun q hq => newsP_one [⟨0, x.1.t, x.1.n, x.1.p⟩] q (by simpa [newsP] using hq)) (by unfold maxLen; omega) (by omega) (by omega) ?_
          case q1 => go_simp
          case q2 => go_simp
          intro v5 u5 ho5 hg5 hw5
          have fin := rd_grow E9 hWz hBz hWB hfx ho5 hg5
          clear E9 E8 hnb' hoU hszu ho5 hg5 hw5
          obtain ⟨a5, c5, rfl, px5, bx5, wx5, fin⟩ := fin
          replace fin := hide fin
          refine hK _ _ (.inr ⟨px5, bx5, wx5⟩) ?_
          clear hK K
          refine wpAnyZ_calls 8 (by kernel_rfl) (fun oi ho K hK => ?_)
          simp only [List.getElem?_toArray, List.getElem?_cons_succ, List.getElem?_cons_zero, Option.some.injEq] at ho
          subst ho
          go_simp
          refine hK _ _ (.inr ⟨px5, bx5, wx5⟩) ?_
          clear hK K
          refine wpAnyZ_calls 9 (by kernel_rfl) (fun oi ho K hK => ?_)
          simp only [List.getElem?_toArray, List.getElem?_cons_succ, List.getElem?_cons_zero, Option.some.injEq] at ho
          subst ho
          go_simp
          refine hK _ _ (.inr ⟨px5, bx5, wx5⟩) ?_
          clear hK K
          have hc1 := bx5.at 0 rfl
          have hf1 := bx5.frz 0
          clear px5 wx5 bx5
          refine wpAnyZ_calls 10 (by kernel_rfl) (fun oi ho K hK => ?_)
          simp only [List.getElem?_toArray, List.getElem?_cons_succ, List.getElem?_cons_zero, Option.some.injEq] at ho
          subst ho
          go_simp
          refine hK _ _ (.inl rfl) ?_
          clear hK K hc1 hf1
          refine wpAnyZ_done (by kernel_rfl) ?_ _
          exact unhide fin
        · have hfx : fixW x = x.1 := by rw [fixW, hk, ← unhide hvt, hbq]; rfl
          clear hvt
          replace hk := hide hk
          gi_upto_region 8 with fail
          clear hbq hk
          have E := E6
          clear E6
          gi_wp2_with fail
          obtain ⟨U', hU'⟩ : ∃ U', U' = ({ heap := W6.heap, tape := W6.tape, drawn := W6.drawn + 1, os := W6.os, output := W6.output } : World) := ⟨_, rfl⟩
          have bU : Below W6.heap.size W6 U' := by rw [hU']; exact (Below.refl _ _).drew
          have E8 := E.up hWz bU
          have cD : Box U' (B + 1) 56 #[.pointer (some ⟨B, 0, none⟩)] ∧ Box U' B 61 #[.slice ra pre.length rc, .int .i64 0, .nilIface] ∧ Box U' P6 74 #[.int .i64 x.1.k, .string x.1.t.1, .int .i64 x.1.n, .int .i64 x.1.p] := ⟨E8.px, E8.bx, E8.wx⟩
          refine wpIn_region_plain hmx (by kernel_rfl) ?no (wpAny_of_Z (z := 10) (C := fun w' => Box w' (B + 1) 56 #[.pointer (some ⟨B, 0, none⟩)] ∧ Box w' B 61 #[.slice ra pre.length rc, .int .i64 0, .nilIface] ∧ Box w' P6 74 #[.int .i64 x.1.k, .string x.1.t.1, .int .i64 x.1.n, .int .i64 x.1.p]) _ _ _ _ ?_)
          case no => exact fun ⟨a, w, h⟩ => h
          rw [← hU']
          replace E8 := hide E8
          clear hU' E bU
          refine wpAnyZ_reads 0 cD (by kernel_rfl) (by kernel_rfl) (by kernel_rfl) (by kernel_rfl) (fun d _ _ _ _ h => by cases d <;> exact h) (fun oi ho K hK => ?_)
          simp only [List.getElem?_toArray, List.getElem?_cons_zero, Option.some.injEq] at ho
          subst ho
          rw [if_pos (by kernel_rfl)]
          refine ⟨.pointer (some ⟨B, 0, none⟩), fun w' hw' => ?_, hK _ ?_⟩
          · have q0 := hw'.1.at 0 rfl; have q1 := hw'.2.1.at 0 rfl; have q2 := hw'.2.2.at 0 rfl; have q3 := hw'.2.2.at 1 rfl; have q4 := hw'.2.2.at 2 rfl; have q5 := hw'.2.2.at 3 rfl
            go_simp
          clear hK K
          refine wpAnyZ_reads 1 cD (by kernel_rfl) (by kernel_rfl) (by kernel_rfl) (by kernel_rfl) (fun d _ _ _ _ h => by cases d <;> exact h) (fun oi ho K hK => ?_)
          simp only [List.getElem?_toArray, List.getElem?_cons_succ, List.getElem?_cons_zero, Option.some.injEq] at ho
          subst ho
          rw [if_pos (by kernel_rfl)]
          refine ⟨.pointer (some ⟨B, 0, none⟩), fun w' hw' => ?_, hK _ ?_⟩
          · have q0 := hw'.1.at 0 rfl; have q1 := hw'.2.1.at 0 rfl; have q2 := hw'.2.2.at 0 rfl; have q3 := hw'.2.2.at 1 rfl; have q4 := hw'.2.2.at 2 rfl; have q5 := hw'.2.2.at 3 rfl
            go_simp
          clear hK K
          refine wpAnyZ_reads 2 cD (by kernel_rfl) (by kernel_rfl) (by kernel_rfl) (by kernel_rfl) (fun d _ _ _ _ h => by cases d <;> exact h) (fun oi ho K hK => ?_)
          simp only [List.getElem?_toArray, List.getElem?_cons_succ, List.getElem?_cons_zero, Option.some.injEq] at ho
          subst ho
          rw [if_pos (by kernel_rfl)]
          refine ⟨.pointer (some ⟨B, 0, none⟩), fun w' hw' => ?_, hK _ ?_⟩
          · clear hw'
            go_simp
          clear hK K
          refine wpAnyZ_reads 3 cD (by kernel_rfl) (by kernel_rfl) (by kernel_rfl) (by kernel_rfl) (fun d _ _ _ _ h => by cases d <;> exact h) (fun oi ho K hK => ?_)
          simp only [List.getElem?_toArray, List.getElem?_cons_succ, List.getElem?_cons_zero, Option.some.injEq] at ho
          subst ho
          rw [if_pos (by kernel_rfl)]
          refine ⟨.pointer (some ⟨B, 0, none⟩), fun w' hw' => ?_, hK _ ?_⟩
          · clear hw'
            go_simp
          clear hK K
          refine wpAnyZ_reads 4 cD (by kernel_rfl) (by kernel_rfl) (by kernel_rfl) (by kernel_rfl) (fun d _ _ _ _ h => by cases d <;> exact h) (fun oi ho K hK => ?_)
          simp only [List.getElem?_toArray, List.getElem?_cons_succ, List.getElem?_cons_zero, Option.some.injEq] at ho
          subst ho
          rw [if_pos (by kernel_rfl)]
          refine ⟨.slice ra pre.length rc, fun w' hw' => ?_, hK _ ?_⟩
          · have q0 := hw'.1.at 0 rfl; have q1 := hw'.2.1.at 0 rfl; have q2 := hw'.2.2.at 0 rfl; have q3 := hw'.2.2.at 1 rfl; have q4 := hw'.2.2.at 2 rfl; have q5 := hw'.2.2.at 3 rfl
            go_simp
          clear hK K
          refine wpAnyZ_reads 5 cD (by kernel_rfl) (by kernel_rfl) (by kernel_rfl) (by kernel_rfl) (fun d _ _ _ _ h => by cases d <;> exact h) (fun oi ho K hK => ?_)
          simp only [List.getElem?_toArray, List.getElem?_cons_succ, List.getElem?_cons_zero, Option.some.injEq] at ho
          subst ho
          rw [if_pos (by kernel_rfl)]
          refine ⟨.agg #[.int .i64 x.1.k, .string x.1.t.1, .int .i64 x.1.n, .int .i64 x.1.p], fun w' hw' => ?_, hK _ ?_⟩
          · have q0 := hw'.1.at 0 rfl; have q1 := hw'.2.1.at 0 rfl; have q2 := hw'.2.2.at 0 rfl; have q3 := hw'.2.2.at 1 rfl; have q4 := hw'.2.2.at 2 rfl; have q5 := hw'.2.2.at 3 rfl
            go_simp
          clear hK K
          refine wpAnyZ_calls 6 (by kernel_rfl) (fun oi ho K hK => ?_)
          simp only [List.getElem?_toArray, List.getElem?_cons_succ, List.getElem?_cons_zero, Option.some.injEq] at ho
          subst ho
          go_simp
          have b2 : Below U'.heap.size U' (U'.alloc (.cells #[.int .i64 x.1.k, .string x.1.t.1, .int .i64 x.1.n, .int .i64 x.1.p] 74)) := (Below.refl _ _).alloc (Nat.le_refl _) _
          have E9 := (unhide E8).up hWz b2
          refine hK _ _ (.inr ⟨E9.px, E9.bx, E9.wx⟩) ?_
          clear hK K
          obtain ⟨u, eu⟩ : ∃ u, u = U'.alloc (.cells #[.int .i64 x.1.k, .string x.1.t.1, .int .i64 x.1.n, .int .i64 x.1.p] 74) := ⟨_, rfl⟩
          have hnb' : Box u U'.heap.size 74 #[.int .i64 x.1.k, .string x.1.t.1, .int .i64 x.1.n, .int .i64 x.1.p] := by rw [eu]; exact Box.new _ _ _
          rw [← eu] at b2 E9 ⊢
          have hoU := E9.ow
          have hszu := E9.sz
          clear eu b2
          refine wpAnyZ_calls 7 (by kernel_rfl) (fun oi ho K hK => ?_)
          simp only [List.getElem?_toArray, List.getElem?_cons_succ, List.getElem?_cons_zero, Option.some.injEq] at ho
          subst ho
          refine step_own u (by rfl) (.tmp 36) (.tmp 38) 59 (by rfl) W4.heap.size 74 i0 (.agg #[.int .i64 0, .string ⟨#[]⟩, .int .i64 0, .int .i64 0]) 4 40 Tryz.underlying59 hi0 hz0 hz1 hz2 (by rfl) (by decide) (.slice ra pre.length rc) pre.length (newsP (pre.map fixW)) ?q1 hoU ⟨U'.heap.size, 0, none⟩ 1 1 #[.int .i64 x.1.k, .string x.1.t.1, .int .i64 x.1.n, .int .i64 x.1.p].toList ?q2 (by rfl) (news_box hnb') (fun q hq => newsP_one [⟨x.1.k, x.1.t, x.1.n, x.1.p⟩] q (by simpa [newsP] using hq)) (by unfold maxLen; omega) (by omega) (by omega) ?_
          case q1 => go_simp
          case q2 => go_simp
          intro v5 u5 ho5 hg5 hw5
          have fin := rd_grow E9 hWz hBz hWB hfx ho5 hg5
          clear E9 E8 hnb' hoU hszu ho5 hg5 hw5
          obtain ⟨a5, c5, rfl, px5, bx5, wx5, fin⟩ := fin
          replace fin := hide fin
          refine hK _ _ (.inr ⟨px5, bx5, wx5⟩) ?_
          clear hK K
          refine wpAnyZ_calls 8 (by kernel_rfl) (fun oi ho K hK => ?_)
          simp only [List.getElem?_toArray, List.getElem?_cons_succ, List.getElem?_cons_zero, Option.some.injEq] at ho
          subst ho
          go_simp
          refine hK _ _ (.inr ⟨px5, bx5, wx5⟩) ?_
          clear hK K
          refine wpAnyZ_calls 9 (by kernel_rfl) (fun oi ho K hK => ?_)
          simp only [List.getElem?_toArray, List.getElem?_cons_succ, List.getElem?_cons_zero, Option.some.injEq] at ho
          subst ho
          go_simp
          refine hK _ _ (.inr ⟨px5, bx5, wx5⟩) ?_
          clear hK K
          have hc1 := bx5.at 0 rfl
          have hf1 := bx5.frz 0
          clear px5 wx5 bx5
          refine wpAnyZ_calls 10 (by kernel_rfl) (fun oi ho K hK => ?_)
          simp only [List.getElem?_toArray, List.getElem?_cons_succ, List.getElem?_cons_zero, Option.some.injEq] at ho
          subst ho
          go_simp
          refine hK _ _ (.inl rfl) ?_
          clear hK K hc1 hf1
          refine wpAnyZ_done (by kernel_rfl) ?_ _
          exact unhide fin
      · have hfx : fixW x = x.1 := by rw [fixW, show decide (x.1.k = 2) = false from decide_eq_false hk]; rfl
        obtain ⟨q0, q1, q2, q3⟩ := E0.wx.four
        have hkb : (x.1.k == 2) = false := by simp [hk]
        have E := hide E0
        clear E0 ho hk
        gi_wp2_with fail
        refine ⟨trivial, ?_⟩
        gi_wp2_with fail
        refine ⟨trivial, ?_⟩
        gi_upto_region 8 with fail
        clear q0 q1 q2 q3 hkb
        replace E := unhide E
        gi_wp2_with fail
        obtain ⟨U', hU'⟩ : ∃ U', U' = ({ heap := V.heap, tape := V.tape, drawn := V.drawn + 1, os := V.os, output := V.output } : World) := ⟨_, rfl⟩
        have bU : Below V.heap.size V U' := by rw [hU']; exact (Below.refl _ _).drew
        have E8 := E.up hWz bU
        have cD : Box U' (B + 1) 56 #[.pointer (some ⟨B, 0, none⟩)] ∧ Box U' B 61 #[.slice ra pre.length rc, .int .i64 0, .nilIface] ∧ Box U' P6 74 #[.int .i64 x.1.k, .string x.1.t.1, .int .i64 x.1.n, .int .i64 x.1.p] := ⟨E8.px, E8.bx, E8.wx⟩
        refine wpIn_region_plain hmx (by kernel_rfl) ?no (wpAny_of_Z (z := 10) (C := fun w' => Box w' (B + 1) 56 #[.pointer (some ⟨B, 0, none⟩)] ∧ Box w' B 61 #[.slice ra pre.length rc, .int .i64 0, .nilIface] ∧ Box w' P6 74 #[.int .i64 x.1.k, .string x.1.t.1, .int .i64 x.1.n, .int .i64 x.1.p]) _ _ _ _ ?_)
        case no => exact fun ⟨a, w, h⟩ => h
        rw [← hU']
        replace E8 := hide E8
        clear hU' E bU
        refine wpAnyZ_reads 0 cD (by kernel_rfl) (by kernel_rfl) (by kernel_rfl) (by kernel_rfl) (fun d _ _ _ _ h => by cases d <;> exact h) (fun oi ho K hK => ?_)
        simp only [List.getElem?_toArray, List.getElem?_cons_zero, Option.some.injEq] at ho
        subst ho
        rw [if_pos (by kernel_rfl)]
        refine ⟨.pointer (some ⟨B, 0, none⟩), fun w' hw' => ?_, hK _ ?_⟩
        · have q0 := hw'.1.at 0 rfl; have q1 := hw'.2.1.at 0 rfl; have q2 := hw'.2.2.at 0 rfl; have q3 := hw'.2.2.at 1 rfl; have q4 := hw'.2.2.at 2 rfl; have q5 := hw'.2.2.at 3 rfl
          go_simp
        clear hK K
        refine wpAnyZ_reads 1 cD (by kernel_rfl) (by kernel_rfl) (by kernel_rfl) (by kernel_rfl) (fun d _ _ _ _ h => by cases d <;> exact h) (fun oi ho K hK => ?_)
        simp only [List.getElem?_toArray, List.getElem?_cons_succ, List.getElem?_cons_zero, Option.some.injEq] at ho
        subst ho
        rw [if_pos (by kernel_rfl)]
        refine ⟨.pointer (some ⟨B, 0, none⟩), fun w' hw' => ?_, hK _ ?_⟩
        · have q0 := hw'.1.at 0 rfl; have q1 := hw'.2.1.at 0 rfl; have q2 := hw'.2.2.at 0 rfl; have q3 := hw'.2.2.at 1 rfl; have q4 := hw'.2.2.at 2 rfl; have q5 := hw'.2.2.at 3 rfl
          go_simp
        clear hK K
        refine wpAnyZ_reads 2 cD (by kernel_rfl) (by kernel_rfl) (by kernel_rfl) (by kernel_rfl) (fun d _ _ _ _ h => by cases d <;> exact h) (fun oi ho K hK => ?_)
        simp only [List.getElem?_toArray, List.getElem?_cons_succ, List.getElem?_cons_zero, Option.some.injEq] at ho
        subst ho
        rw [if_pos (by kernel_rfl)]
        refine ⟨.pointer (some ⟨B, 0, none⟩), fun w' hw' => ?_, hK _ ?_⟩
        · clear hw'
          go_simp
        clear hK K
        refine wpAnyZ_reads 3 cD (by kernel_rfl) (by kernel_rfl) (by kernel_rfl) (by kernel_rfl) (fun d _ _ _ _ h => by cases d <;> exact h) (fun oi ho K hK => ?_)
        simp only [List.getElem?_toArray, List.getElem?_cons_succ, List.getElem?_cons_zero, Option.some.injEq] at ho
        subst ho
        rw [if_pos (by kernel_rfl)]
        refine ⟨.pointer (some ⟨B, 0, none⟩), fun w' hw' => ?_, hK _ ?_⟩
        · clear hw'
          go_simp
        clear hK K
        refine wpAnyZ_reads 4 cD (by kernel_rfl) (by kernel_rfl) (by kernel_rfl) (by kernel_rfl) (fun d _ _ _ _ h => by cases d <;> exact h) (fun oi ho K hK => ?_)
        simp only [List.getElem?_toArray, List.getElem?_cons_succ, List.getElem?_cons_zero, Option.some.injEq] at ho
        subst ho
        rw [if_pos (by kernel_rfl)]
        refine ⟨.slice ra pre.length rc, fun w' hw' => ?_, hK _ ?_⟩
        · have q0 := hw'.1.at 0 rfl; have q1 := hw'.2.1.at 0 rfl; have q2 := hw'.2.2.at 0 rfl; have q3 := hw'.2.2.at 1 rfl; have q4 := hw'.2.2.at 2 rfl; have q5 := hw'.2.2.at 3 rfl
          go_simp
        clear hK K
        refine wpAnyZ_reads 5 cD (by kernel_rfl) (by kernel_rfl) (by kernel_rfl) (by kernel_rfl) (fun d _ _ _ _ h => by cases d <;> exact h) (fun oi ho K hK => ?_)
        simp only [List.getElem?_toArray, List.getElem?_cons_succ, List.getElem?_cons_zero, Option.some.injEq] at ho
        subst ho
        rw [if_pos (by kernel_rfl)]
        refine ⟨.agg #[.int .i64 x.1.k, .string x.1.t.1, .int .i64 x.1.n, .int .i64 x.1.p], fun w' hw' => ?_, hK _ ?_⟩
        · have q0 := hw'.1.at 0 rfl; have q1 := hw'.2.1.at 0 rfl; have q2 := hw'.2.2.at 0 rfl; have q3 := hw'.2.2.at 1 rfl; have q4 := hw'.2.2.at 2 rfl; have q5 := hw'.2.2.at 3 rfl
          go_simp
        clear hK K
        refine wpAnyZ_calls 6 (by kernel_rfl) (fun oi ho K hK => ?_)
        simp only [List.getElem?_toArray, List.getElem?_cons_succ, List.getElem?_cons_zero, Option.some.injEq] at ho
        subst ho
        go_simp
        have b2 : Below U'.heap.size U' (U'.alloc (.cells #[.int .i64 x.1.k, .string x.1.t.1, .int .i64 x.1.n, .int .i64 x.1.p] 74)) := (Below.refl _ _).alloc (Nat.le_refl _) _
        have E9 := (unhide E8).up hWz b2
        refine hK _ _ (.inr ⟨E9.px, E9.bx, E9.wx⟩) ?_
        clear hK K
        obtain ⟨u, eu⟩ : ∃ u, u = U'.alloc (.cells #[.int .i64 x.1.k, .string x.1.t.1, .int .i64 x.1.n, .int .i64 x.1.p] 74) := ⟨_, rfl⟩
        have hnb' : Box u U'.heap.size 74 #[.int .i64 x.1.k, .string x.1.t.1, .int .i64 x.1.n, .int .i64 x.1.p] := by rw [eu]; exact Box.new _ _ _
        rw [← eu] at b2 E9 ⊢
        have hoU := E9.ow
        have hszu := E9.sz
        clear eu b2
        refine wpAnyZ_calls 7 (by kernel_rfl) (fun oi ho K hK => ?_)
        simp only [List.getElem?_toArray, List.getElem?_cons_succ, List.getElem?_cons_zero, Option.some.injEq] at ho
        subst ho
        refine step_own u (by rfl) (.tmp 36) (.tmp 38) 59 (by rfl) W4.heap.size 74 i0 (.agg #[.int .i64 0, .string ⟨#[]⟩, .int .i64 0, .int .i64 0]) 4 40 Tryz.underlying59 hi0 hz0 hz1 hz2 (by rfl) (by decide) (.slice ra pre.length rc) pre.length (newsP (pre.map fixW)) ?q1 hoU ⟨U'.heap.size, 0, none⟩ 1 1 #[.int .i64 x.1.k, .string x.1.t.1, .int .i64 x.1.n, .int .i64 x.1.p].toList ?q2 (by rfl) (news_box hnb') (fun q hq => newsP_one [⟨x.1.k, x.1.t, x.1.n, x.1.p⟩] q (by simpa [newsP] using hq)) (by unfold maxLen; omega) (by omega) (by omega) ?_
        case q1 => go_simp
        case q2 => go_simp
        intro v5 u5 ho5 hg5 hw5
        have fin := rd_grow E9 hWz hBz hWB hfx ho5 hg5
        clear E9 E8 hnb' hoU hszu ho5 hg5 hw5
        obtain ⟨a5, c5, rfl, px5, bx5, wx5, fin⟩ := fin
        replace fin := hide fin
        refine hK _ _ (.inr ⟨px5, bx5, wx5⟩) ?_
        clear hK K
        refine wpAnyZ_calls 8 (by kernel_rfl) (fun oi ho K hK => ?_)
        simp only [List.getElem?_toArray, List.getElem?_cons_succ, List.getElem?_cons_zero, Option.some.injEq] at ho
        subst ho
        go_simp
        refine hK _ _ (.inr ⟨px5, bx5, wx5⟩) ?_
        clear hK K
        refine wpAnyZ_calls 9 (by kernel_rfl) (fun oi ho K hK => ?_)
        simp only [List.getElem?_toArray, List.getElem?_cons_succ, List.getElem?_cons_zero, Option.some.injEq] at ho
        subst ho
        go_simp
        refine hK _ _ (.inr ⟨px5, bx5, wx5⟩) ?_
        clear hK K
        have hc1 := bx5.at 0 rfl
        have hf1 := bx5.frz 0
        clear px5 wx5 bx5
        refine wpAnyZ_calls 10 (by kernel_rfl) (fun oi ho K hK => ?_)
        simp only [List.getElem?_toArray, List.getElem?_cons_succ, List.getElem?_cons_zero, Option.some.injEq] at ho
        subst ho
        go_simp
        refine hK _ _ (.inl rfl) ?_
        clear hK K hc1 hf1
        refine wpAnyZ_done (by kernel_rfl) ?_ _
        exact unhide fin
    case done =>
      rintro D xs V3 hD rfl ⟨bV, hz, hp, ra, rc, hx, ho⟩ hd
      obtain ⟨p0, -⟩ := hp.one
      have HO := hide ho
      have HX := hide hx
      have HD := hide hd
      replace bV := hide bV
      clear ho hx hp hd told' J0
      gi_wp2_with fail
      refine ⟨by simp, .inl ⟨_, _, rfl, run_takeDeferred (show V3.heap[D]? = _ from unhide HD), ?_⟩⟩
      have hg := grownBy_putObj' V3 D (.deferred none)
      have hs2 := sm_grown hg (fun r e => by cases e; exact ⟨_, unhide HD, rfl⟩)
      have hol := own_sm hs2 (unhide HO)
      have hxl := (unhide HX).sm hs2
      have hWz := b04.size
      refine ⟨.pointer (some ⟨B, 0, none⟩), by simp [results, Tryz.results18, go_sem], B, rfl, hWB, ⟨Nat.le_refl _, hxl.lt, ra, rc, ?_, ?_, ?_, ?_⟩, ?_⟩
      · have := own_cap hol; simpa [readP] using this
      · simp [readP]; omega
      · rw [readP, ← unhide hev, List.length_map]; exact hxl
      · refine pws_own (base := W4.heap.size) (c := rc) ?_ (by omega) (Nat.le_refl _)
        simpa [readP] using hol
      · exact (unhide bV).grown hg (unhide bV).size (fun k e => by cases e; omega)
    case stop =>
      rintro D c pre V hD _ h _
      exact h.elim
  · skip
    refine callsIn_wide.1 (show CallsIn Fence.wide 5 _ _ _ _ _ from ?_)
    refine callsIn_of_wp_marks Tryz.func18 rfl trivial ?_ rfl
    simp only [Tryz.ntmps18, List.size_toArray, List.length_cons, List.length_nil, Nat.reduceAdd, Nat.reduceSub, Array.replicate_succ, Array.replicate_zero, List.push_toArray, List.append_toArray, List.nil_append, List.cons_append]
    have cC1 := hide (callsIn_wide.2 (unhide cC) : CallsIn Fence.wide 4 _ _ _ _ _)
    gi_wp2_with fail
    refine ⟨trivial, ?_⟩
    refine (unhide cC1).mono ?_
    rintro r W1 ⟨v, rfl, ho, b1⟩
    clear cC cC1
    obtain ⟨a, cap, rfl⟩ := owns_form ho
    rw [hwl] at ho ⊢
    obtain ⟨B, hB⟩ : ∃ B, B = W1.heap.size := ⟨_, rfl⟩
    obtain ⟨W2, hW2⟩ : ∃ W2, W2 = (W1.alloc (.cells #[.slice none 0 0, .int .i64 0, (.iface 49 (.int .i64 ex))] 61)).alloc (.cells #[.pointer (some ⟨B, 0, none⟩)] 56) := ⟨_, rfl⟩
    have b2 : Below W1.heap.size W1 W2 := by rw [hW2]; exact ((Below.refl _ _).alloc (Nat.le_refl _) _).alloc (by simp) _
    have x2 : Box W2 B 61 #[.slice none 0 0, .int .i64 0, (.iface 49 (.int .i64 ex))] := by rw [hW2, hB]; exact (Box.new _ _ _).alloc _
    have p2 : Box W2 (B + 1) 56 #[.pointer (some ⟨B, 0, none⟩)] := by rw [hW2, hB]; exact box_next _ _ _ _
    have ho2 := owns_below' ho b2
    have hWB : W.heap.size ≤ B := by rw [hB]; exact b1.size
    have b12 := b1.trans (b2.mono b1.size)
    have hgB : ∀ g, Value.ownBlock (.slice a (wordsP s).length cap) = some g → g < B := fun g e => by rw [hB]; exact (ho.lt g e).2
    gi_upto_region 3 with fail
    rw [← hB, ← hW2]
    have cQ := hide (callsIn_wide.2 (written_c (.slice a (wordsP s).length cap) ⟨_, _, _, rfl⟩ s W2) : CallsIn Fence.wide 4 _ _ _ _ _)
    clear hW2 hB ho b1 b2
    have HO := hide ho2
    have X2 := hide x2
    have P2 := hide p2
    have hp2l := p2.lt
    clear ho2 x2 p2
    gi_wp2_with fail
    refine ⟨trivial, ?_⟩
    refine (unhide cQ).mono ?_
    rintro r W4 ⟨rfl, hb4, y1, y2⟩
    clear cQ
    obtain ⟨D1, hD1⟩ : ∃ D1, D1 = W2.heap.size := ⟨_, rfl⟩
    rw [← hD1] at y1 y2 hp2l ⊢
    have hl4 := y2.lt
    have x4 := (unhide X2).on hb4 (unhide X2).lt
    have p4 := (unhide P2).on hb4 (unhide P2).lt
    have ho4 := owns_below' (unhide HO) hb4
    have hcells : ∃ g, (0 < (wordsP s).length → a = some ⟨g, 0, none⟩) ∧ (0 < (wordsP s).length → g < B) ∧ ∀ (j : Nat) w, (wordsP s)[j]? = some w → ∀ (i : Nat) u, w.cs[i]? = some u → W4.cell? ⟨g, 0 + j * 4 + i, none⟩ = some u := by
      rcases ho4.2 with ⟨e, h0⟩ | ⟨g, cap', cur, e, hb, hg, hr⟩
      · exact ⟨0, fun h => by omega, fun h => by omega, fun j w hw => by have := (List.getElem?_eq_some_iff.1 hw).1; omega⟩
      · simp only [Value.slice.injEq] at e
        obtain ⟨rfl, -, rfl⟩ := e
        refine ⟨g, fun _ => rfl, fun _ => hgB g rfl, fun j w hw i u hu => ?_⟩
        have hj := (List.getElem?_eq_some_iff.1 hw).1
        have h4 : i < 4 := by have := (Array.getElem?_eq_some_iff.1 hu).1; simpa using this
        rw [Nat.zero_add, ho4.cellAt (j * 4 + i) (by omega)]
        exact cells_wordsP s j w hw i u hu
    obtain ⟨g, hga, hgb, hgc⟩ := hcells
    have b04 := b12.trans (hb4.mono b12.size)
    have told := written_told W4.heap.size B D1 (D1 + 1) g 0 cap a s (by omega) (wordsP s) (by omega) (endP' s) (pairsP s) hTl (fun i w hw => by rw [pairsP, List.getElem?_mapIdx, hw]; rfl)
      (endP_facts s) (endP_next s) (endP_last s) W4 (Nat.le_refl _) (by omega) hl4 (fun h => by have := hgb h; omega) (by omega) (by omega) (fun h => by have := hgb h; omega) hga y1 y2 hgc
    have J0 : RdJ W4.heap.size B W (.iface 49 (.int .i64 ex)) [] W4 := ⟨b04, Nat.le_refl _, p4, none, 0, x4, World.ownsRow_nil _ _ _ _⟩
    have told' := hide told
    replace J0 := hide J0
    clear told hgc hga hgb x4 p4 ho4 y1 y2 HO X2 P2 hb4 b12 hD1 hwl
    gi_wp2_with fail
    refine wpIn_rangeFunc_told (ok := okN) (fun o h => h) rfl (by decide) (gf := 70) (lb := #[.pointer (some ⟨D1, 0, none⟩), .pointer (some ⟨D1 + 1, 0, none⟩)]) rfl trivial (enters_of Tryz.func70 (by kernel_rfl) rfl)
      (unhide told') KpX.trans (fun W' l' o' o'' hl h hc hw => KpX.put W' h hc o'') (Below.refl _ _) (fun _ => rfl)
      (RdJ W4.heap.size B W (.iface 49 (.int .i64 ex))) (fun _ _ _ => False) (RdJ.own (by omega)) (fun c => fun _ _ _ _ hs _ _ => hs) (unhide J0)
      (fun pre x a1 V => (∃ rest, pairsP s = pre ++ x :: rest) ∧ ∃ P6 rv, W4.heap.size ≤ P6 ∧ Box V B 61 #[rv, .int .i64 0, (.iface 49 (.int .i64 ex))] ∧ (∀ g, rv.ownBlock = some g → g < P6) ∧ Box V P6 74 x.1.cs ∧ a1 = { tmps := #[.string s, undef, .pointer none, .slice a (wordsP s).length cap, (.iface 49 (.int .i64 ex)), .pointer (some ⟨B + 1, 0, none⟩), .pointer (some ⟨P6, 0, none⟩), .string x.2, .tuple #[.slice a (wordsP s).length cap, (.iface 49 (.int .i64 ex))], .string s, .tuple #[.slice a (wordsP s).length cap, (.iface 49 (.int .i64 ex))], .slice a (wordsP s).length cap, (.iface 49 (.int .i64 ex)), (.iface 49 (.int .i64 ex)), .agg #[.slice none 0 0, .int .i64 0, (.iface 49 (.int .i64 ex))], .pointer (some ⟨B, 0, none⟩), .slice a (wordsP s).length cap, .string s, .func (.func 70) #[] #[.pointer (some ⟨D1, 0, none⟩), .pointer (some ⟨D1 + 1, 0, none⟩)], x.1.v, .string x.2, undef, undef, undef, undef, undef, undef, undef, undef, undef, undef, undef, undef, undef, undef, undef, undef, undef, undef, undef, undef, undef, undef], defers := [] }) (fun pre x a1 => fun _ A C row hs hg hr => ⟨hs.1, by obtain ⟨P6, rv, h1, h2, h3, h4, h5⟩ := hs.2; have hh := sm_grown hg fun r e => (hr r e).2; exact ⟨P6, rv, h1, h2.sm hh, h3, h4.sm hh, h5⟩⟩) ?assign ?body ?done ?stop
    case assign =>
      rintro l2 pre x V K hi he hK
      gi_wp2_with fail
      have bal : Below V.heap.size V (V.alloc (.cells #[.int .i64 x.1.k, .string x.1.t.1, .int .i64 x.1.n, .int .i64 x.1.p] 74)) := (Below.refl _ _).alloc (Nat.le_refl _) _
      have hz4 := hi.2.1
      exact hK _ _ (keeps_bel bal) (KpX.bel hi.2.1 bal) ((RdJ.own (Nat.le_refl _)).alloc _ hi) (by
        obtain ⟨-, -, -, a, c, h2, h3⟩ := hi
        exact ⟨he, V.heap.size, _, hz4, h2.alloc _, fun g e => (h3.lt g e).2, Box.new _ _ _, rfl⟩)
    case body =>
      rintro l2 pre x a1 V ⟨bWV, hz4, p1, ra, rc, hx, ho⟩ ⟨⟨rest, hel⟩, P6, rv, hP6, xr, hrv, xb, rfl⟩
      have erv : rv = .slice ra pre.length rc := by
        have := xr.symm.trans hx
        simp at this; exact this
      subst erv
      have E0 : RdE W4.heap.size B W V (.iface 49 (.int .i64 ex)) pre ra rc P6 x.1 V := ⟨bWV, .refl _ _, .refl _ _ _, hz4, p1, hx, ho, hrv, xb, hP6⟩
      have hS1 : VarsS V := hS.on bWV
      have hnb := wordsP_n (s := s) (w := x.1) (by
        have hm : x ∈ pairsP s := by rw [hel]; simp
        obtain ⟨i, hi⟩ := List.mem_iff_getElem?.1 hm
        rw [pairsP, List.getElem?_mapIdx] at hi
        obtain ⟨w, hw, e⟩ := Option.map_eq_some_iff.1 hi
        rw [← e]
        exact List.mem_of_getElem? hw)
      have hpre : pre.length ≤ 500 := by have := congrArg List.length hel; rw [hTl] at this; simp at this; omega
      have hxz : P6 < V.heap.size := xb.lt
      have hWz := b04.size
      have hBz : B + 1 < W4.heap.size := by omega
      clear p1 xr hx hrv xb hxz bWV told' J0
      by_cases hk : x.1.k = 2
      · obtain ⟨q0, q1, q2, q3⟩ := E0.wx.four
        rw [hk] at q0
        have cN := hide (CallsIn.inRound l2 (callsIn_wide.2 (number_c ⟨2, x.1.t, x.1.n, x.1.p⟩ V)) : CallsIn (Fence.wide.inRound l2) 2 Tryz.prog 44 _ V _)
        obtain ⟨vt, hvt⟩ : ∃ vt, vt = valB 1 x.1.n ⟨#[]⟩ := ⟨_, rfl⟩
        have EH := hide E0
        have HO := hide ho
        clear E0 ho
        replace hvt := hide hvt
        gi_wp2_with fail
        refine ⟨trivial, ?_⟩
        refine (unhide cN).mono ?_
        rintro r W5 ⟨rfl, b5⟩
        have E5 := (unhide EH).up hWz b5
        have cF0 := faceV_c 1 x.1.n ⟨#[]⟩ hnb.1 hnb.2 (by decide) W5 (hS1.on b5)
        rw [← unhide hvt] at cF0
        have cF := hide (CallsIn.inRound l2 (callsIn_wide.2 cF0) : CallsIn (Fence.wide.inRound l2) 2 Tryz.prog 43 _ W5 _)
        replace E5 := hide E5
        clear cN b5 q0 q1 q2 q3 EH HO cF0
        gi_wp2_with fail
        refine ⟨trivial, ?_⟩
        refine (unhide cF).mono ?_
        rintro r W6 ⟨rfl, b6⟩
        have E6 := (unhide E5).up hWz b6
        clear cF E5 b6
        rcases hbq : (x.2.toList == vt.toList) with _ | _
        · have hfx : fixW x = ⟨0, x.1.t, x.1.n, x.1.p⟩ := by rw [fixW, hk, ← unhide hvt, hbq]; rfl
          clear hvt
          obtain ⟨q0, q1, q2, q3⟩ := E6.wx.four
          have hf0 := E6.wx.frz 0
          have E7 := hide (E6.set0 hWz hBz 0)
          clear E6
          gi_upto_region 8 with fail
          generalize W6.setCell ⟨P6, 0, none⟩ (.int .i64 0) = U at E7 ⊢
          clear q0 q1 q2 q3 hf0 hbq
          have E := unhide E7
          clear E7
          gi_wp2_with fail
          obtain ⟨U', hU'⟩ : ∃ U', U' = ({ heap := U.heap, tape := U.tape, drawn := U.drawn + 1, os := U.os, output := U.output } : World) := ⟨_, rfl⟩
          have bU : Below U.heap.size U U' := by rw [hU']; exact (Below.refl _ _).drew
          have E8 := E.up hWz bU
          have cD : Box U' (B + 1) 56 #[.pointer (some ⟨B, 0, none⟩)] ∧ Box U' B 61 #[.slice ra pre.length rc, .int .i64 0, (.iface 49 (.int .i64 ex))] ∧ Box U' P6 74 #[.int .i64 0, .string x.1.t.1, .int .i64 x.1.n, .int .i64 x.1.p] := ⟨E8.px, E8.bx, E8.wx⟩
          refine wpIn_region_plain hmx (by kernel_rfl) ?no (wpAny_of_Z (z := 10) (C := fun w' => Box w' (B + 1) 56 #[.pointer (some ⟨B, 0, none⟩)] ∧ Box w' B 61 #[.slice ra pre.length rc, .int .i64 0, (.iface 49 (.int .i64 ex))] ∧ Box w' P6 74 #[.int .i64 0, .string x.1.t.1, .int .i64 x.1.n, .int .i64 x.1.p]) _ _ _ _ ?_)
          case no => exact fun ⟨a, w, h⟩ => h
          rw [← hU']
          replace E8 := hide E8
          clear hU' E bU
          refine wpAnyZ_reads 0 cD (by kernel_rfl) (by kernel_rfl) (by kernel_rfl) (by kernel_rfl) (fun d _ _ _ _ h => by cases d <;> exact h) (fun oi ho K hK => ?_)
          simp only [List.getElem?_toArray, List.getElem?_cons_zero, Option.some.injEq] at ho
          subst ho
          rw [if_pos (by kernel_rfl)]
          refine ⟨.pointer (some ⟨B, 0, none⟩), fun w' hw' => ?_, hK _ ?_⟩
          · have q0 := hw'.1.at 0 rfl; have q1 := hw'.2.1.at 0 rfl; have q2 := hw'.2.2.at 0 rfl; have q3 := hw'.2.2.at 1 rfl; have q4 := hw'.2.2.at 2 rfl; have q5 := hw'.2.2.at 3 rfl
            go_simp
          clear hK K
          refine wpAnyZ_reads 1 cD (by kernel_rfl) (by kernel_rfl) (by kernel_rfl) (by kernel_rfl) (fun d _ _ _ _ h => by cases d <;> exact h) (fun oi ho K hK => ?_)
          simp only [List.getElem?_toArray, List.getElem?_cons_succ, List.getElem?_cons_zero, Option.some.injEq] at ho
          subst ho
          rw [if_pos (by kernel_rfl)]
          refine ⟨.pointer (some ⟨B, 0, none⟩), fun w' hw' => ?_, hK _ ?_⟩
          · have q0 := hw'.1.at 0 rfl; have q1 := hw'.2.1.at 0 rfl; have q2 := hw'.2.2.at 0 rfl; have q3 := hw'.2.2.at 1 rfl; have q4 := hw'.2.2.at 2 rfl; have q5 := hw'.2.2.at 3 rfl
            go_simp
          clear hK K
          refine wpAnyZ_reads 2 cD (by kernel_rfl) (by kernel_rfl) (by kernel_rfl) (by kernel_rfl) (fun d _ _ _ _ h => by cases d <;> exact h) (fun oi ho K hK => ?_)
          simp only [List.getElem?_toArray, List.getElem?_cons_succ, List.getElem?_cons_zero, Option.some.injEq] at ho
          subst ho
          rw [if_pos (by kernel_rfl)]
          refine ⟨.pointer (some ⟨B, 0, none⟩), fun w' hw' => ?_, hK _ ?_⟩
          · clear hw'
            go_simp
          clear hK K
          refine wpAnyZ_reads 3 cD (by kernel_rfl) (by kernel_rfl) (by kernel_rfl) (by kernel_rfl) (fun d _ _ _ _ h => by cases d <;> exact h) (fun oi ho K hK => ?_)
          simp only [List.getElem?_toArray, List.getElem?_cons_succ, List.getElem?_cons_zero, Option.some.injEq] at ho
          subst ho
          rw [if_pos (by kernel_rfl)]
          refine ⟨.pointer (some ⟨B, 0, none⟩), fun w' hw' => ?_, hK _ ?_⟩
          · clear hw'
            go_simp
          clear hK K
          refine wpAnyZ_reads 4 cD (by kernel_rfl) (by kernel_rfl) (by kernel_rfl) (by kernel_rfl) (fun d _ _ _ _ h => by cases d <;> exact h) (fun oi ho K hK => ?_)
          simp only [List.getElem?_toArray, List.getElem?_cons_succ, List.getElem?_cons_zero, Option.some.injEq] at ho
          subst ho
          rw [if_pos (by kernel_rfl)]
          refine ⟨.slice ra pre.length rc, fun w' hw' => ?_, hK _ ?_⟩
          · have q0 := hw'.1.at 0 rfl; have q1 := hw'.2.1.at 0 rfl; have q2 := hw'.2.2.at 0 rfl; have q3 := hw'.2.2.at 1 rfl; have q4 := hw'.2.2.at 2 rfl; have q5 := hw'.2.2.at 3 rfl
            go_simp
          clear hK K
          refine wpAnyZ_reads 5 cD (by kernel_rfl) (by kernel_rfl) (by kernel_rfl) (by kernel_rfl) (fun d _ _ _ _ h => by cases d <;> exact h) (fun oi ho K hK => ?_)
          simp only [List.getElem?_toArray, List.getElem?_cons_succ, List.getElem?_cons_zero, Option.some.injEq] at ho
          subst ho
          rw [if_pos (by kernel_rfl)]
          refine ⟨.agg #[.int .i64 0, .string x.1.t.1, .int .i64 x.1.n, .int .i64 x.1.p], fun w' hw' => ?_, hK _ ?_⟩
          · have q0 := hw'.1.at 0 rfl; have q1 := hw'.2.1.at 0 rfl; have q2 := hw'.2.2.at 0 rfl; have q3 := hw'.2.2.at 1 rfl; have q4 := hw'.2.2.at 2 rfl; have q5 := hw'.2.2.at 3 rfl
            go_simp
          clear hK K
          refine wpAnyZ_calls 6 (by kernel_rfl) (fun oi ho K hK => ?_)
          simp only [List.getElem?_toArray, List.getElem?_cons_succ, List.getElem?_cons_zero, Option.some.injEq] at ho
          subst ho
          go_simp
          have b2 : Below U'.heap.size U' (U'.alloc (.cells #[.int .i64 0, .string x.1.t.1, .int .i64 x.1.n, .int .i64 x.1.p] 74)) := (Below.refl _ _).alloc (Nat.le_refl _) _
          have E9 := (unhide E8).up hWz b2
          refine hK _ _ (.inr ⟨E9.px, E9.bx, E9.wx⟩) ?_
          clear hK K
          obtain ⟨u, eu⟩ : ∃ u, u = U'.alloc (.cells #[.int .i64 0, .string x.1.t.1, .int .i64 x.1.n, .int .i64 x.1.p] 74) := ⟨_, rfl⟩
          have hnb' : Box u U'.heap.size 74 #[.int .i64 0, .string x.1.t.1, .int .i64 x.1.n, .int .i64 x.1.p] := by rw [eu]; exact Box.new _ _ _
          rw [← eu] at b2 E9 ⊢
          have hoU := E9.ow
          have hszu := E9.sz
          clear eu b2
          refine wpAnyZ_calls 7 (by kernel_rfl) (fun oi ho K hK => ?_)
          simp only [List.getElem?_toArray, List.getElem?_cons_succ, List.getElem?_cons_zero, Option.some.injEq] at ho
          subst ho
          refine step_own u (by rfl) (.tmp 36) (.tmp 38) 59 (by rfl) W4.heap.size 74 i0 (.agg #[.int .i64 0, .string ⟨#[]⟩, .int .i64 0, .int .i64 0]) 4 40 Tryz.underlying59 hi0 hz0 hz1 hz2 (by rfl) (by decide) (.slice ra pre.length rc) pre.length (newsP (pre.map fixW)) ?q1 hoU ⟨U'.heap.size, 0, none⟩ 1 1 #[.int .i64 0, .string x.1.t.1, .int .i64 x.1.n, .int .i64 x.1.p].toList ?q2 (by rfl) (news_box hnb') (fun q hq => newsP_one [⟨0, x.1.t, x.1.n, x.1.p⟩] q (by simpa [newsP] using hq)) (by unfold maxLen; omega) (by omega) (by omega) ?_
          case q1 => go_simp
          case q2 => go_simp
          intro v5 u5 ho5 hg5 hw5
          have fin := rd_grow E9 hWz hBz hWB hfx ho5 hg5
          clear E9 E8 hnb' hoU hszu ho5 hg5 hw5
          obtain ⟨a5, c5, rfl, px5, bx5, wx5, fin⟩ := fin
          replace fin := hide fin
          refine hK _ _ (.inr ⟨px5, bx5, wx5⟩) ?_
          clear hK K
          refine wpAnyZ_calls 8 (by kernel_rfl) (fun oi ho K hK => ?_)
          simp only [List.getElem?_toArray, List.getElem?_cons_succ, List.getElem?_cons_zero, Option.some.injEq] at ho
          subst ho
          go_simp
          refine hK _ _ (.inr ⟨px5, bx5, wx5⟩) ?_
          clear hK K
          refine wpAnyZ_calls 9 (by kernel_rfl) (fun oi ho K hK => ?_)
          simp only [List.getElem?_toArray, List.getElem?_cons_succ, List.getElem?_cons_zero, Option.some.injEq] at ho
          subst ho
          go_simp
          refine hK _ _ (.inr ⟨px5, bx5, wx5⟩) ?_
          clear hK K
          have hc1 := bx5.at 0 rfl
          have hf1 := bx5.frz 0
          clear px5 wx5 bx5
          refine wpAnyZ_calls 10 (by kernel_rfl) (fun oi ho K hK => ?_)
          simp only [List.getElem?_toArray, List.getElem?_cons_succ, List.getElem?_cons_zero, Option.some.injEq] at ho
          subst ho
          go_simp
          refine hK _ _ (.inl rfl) ?_
          clear hK K hc1 hf1
          refine wpAnyZ_done (by kernel_rfl) ?_ _
          exact unhide fin
        · have hfx : fixW x = x.1 := by rw [fixW, hk, ← unhide hvt, hbq]; rfl
          clear hvt
          replace hk := hide hk
          gi_upto_region 8 with fail
          clear hbq hk
          have E := E6
          clear E6
          gi_wp2_with fail
          obtain ⟨U', hU'⟩ : ∃ U', U' = ({ heap := W6.heap, tape := W6.tape, drawn := W6.drawn + 1, os := W6.os, output := W6.output } : World) := ⟨_, rfl⟩
          have bU : Below W6.heap.size W6 U' := by rw [hU']; exact (Below.refl _ _).drew
          have E8 := E.up hWz bU
          have cD : Box U' (B + 1) 56 #[.pointer (some ⟨B, 0, none⟩)] ∧ Box U' B 61 #[.slice ra pre.length rc, .int .i64 0, (.iface 49 (.int .i64 ex))] ∧ Box U' P6 74 #[.int .i64 x.1.k, .string x.1.t.1, .int .i64 x.1.n, .int .i64 x.1.p] := ⟨E8.px, E8.bx, E8.wx⟩
          refine wpIn_region_plain hmx (by kernel_rfl) ?no (wpAny_of_Z (z := 10) (C := fun w' => Box w' (B + 1) 56 #[.pointer (some ⟨B, 0, none⟩)] ∧ Box w' B 61 #[.slice ra pre.length rc, .int .i64 0, (.iface 49 (.int .i64 ex))] ∧ Box w' P6 74 #[.int .i64 x.1.k, .string x.1.t.1, .int .i64 x.1.n, .int .i64 x.1.p]) _ _ _ _ ?_)
          case no => exact fun ⟨a, w, h⟩ => h
          rw [← hU']
          replace E8 := hide E8
          clear hU' E bU
          refine wpAnyZ_reads 0 cD (by kernel_rfl) (by kernel_rfl) (by kernel_rfl) (by kernel_rfl) (fun d _ _ _ _ h => by cases d <;> exact h) (fun oi ho K hK => ?_)
          simp only [List.getElem?_toArray, List.getElem?_cons_zero, Option.some.injEq] at ho
          subst ho
          rw [if_pos (by kernel_rfl)]
          refine ⟨.pointer (some ⟨B, 0, none⟩), fun w' hw' => ?_, hK _ ?_⟩
          · have q0 := hw'.1.at 0 rfl; have q1 := hw'.2.1.at 0 rfl; have q2 := hw'.2.2.at 0 rfl; have q3 := hw'.2.2.at 1 rfl; have q4 := hw'.2.2.at 2 rfl; have q5 := hw'.2.2.at 3 rfl
            go_simp
          clear hK K
          refine wpAnyZ_reads 1 cD (by kernel_rfl) (by kernel_rfl) (by kernel_rfl) (by kernel_rfl) (fun d _ _ _ _ h => by cases d <;> exact h) (fun oi ho K hK => ?_)
          simp only [List.getElem?_toArray, List.getElem?_cons_succ, List.getElem?_cons_zero, Option.some.injEq] at ho
          subst ho
          rw [if_pos (by kernel_rfl)]
          refine ⟨.pointer (some ⟨B, 0, none⟩), fun w' hw' => ?_, hK _ ?_⟩
          · have q0 := hw'.1.at 0 rfl; have q1 := hw'.2.1.at 0 rfl; have q2 := hw'.2.2.at 0 rfl; have q3 := hw'.2.2.at 1 rfl; have q4 := hw'.2.2.at 2 rfl; have q5 := hw'.2.2.at 3 rfl
            go_simp
          clear hK K
          refine wpAnyZ_reads 2 cD (by kernel_rfl) (by kernel_rfl) (by kernel_rfl) (by kernel_rfl) (fun d _ _ _ _ h => by cases d <;> exact h) (fun oi ho K hK => ?_)
          simp only [List.getElem?_toArray, List.getElem?_cons_succ, List.getElem?_cons_zero, Option.some.injEq] at ho
          subst ho
          rw [if_pos (by kernel_rfl)]
          refine ⟨.pointer (some ⟨B, 0, none⟩), fun w' hw' => ?_, hK _ ?_⟩
          · clear hw'
            go_simp
          clear hK K
          refine wpAnyZ_reads 3 cD (by kernel_rfl) (by kernel_rfl) (by kernel_rfl) (by kernel_rfl) (fun d _ _ _ _ h => by cases d <;> exact h) (fun oi ho K hK => ?_)
          simp only [List.getElem?_toArray, List.getElem?_cons_succ, List.getElem?_cons_zero, Option.some.injEq] at ho
          subst ho
          rw [if_pos (by kernel_rfl)]
          refine ⟨.pointer (some ⟨B, 0, none⟩), fun w' hw' => ?_, hK _ ?_⟩
          · clear hw'
            go_simp
          clear hK K
          refine wpAnyZ_reads 4 cD (by kernel_rfl) (by kernel_rfl) (by kernel_rfl) (by kernel_rfl) (fun d _ _ _ _ h => by cases d <;> exact h) (fun oi ho K hK => ?_)
          simp only [List.getElem?_toArray, List.getElem?_cons_succ, List.getElem?_cons_zero, Option.some.injEq] at ho
          subst ho
          rw [if_pos (by kernel_rfl)]
          refine ⟨.slice ra pre.length rc, fun w' hw' => ?_, hK _ ?_⟩
          · have q0 := hw'.1.at 0 rfl; have q1 := hw'.2.1.at 0 rfl; have q2 := hw'.2.2.at 0 rfl; have q3 := hw'.2.2.at 1 rfl; have q4 := hw'.2.2.at 2 rfl; have q5 := hw'.2.2.at 3 rfl
            go_simp
          clear hK K
          refine wpAnyZ_reads 5 cD (by kernel_rfl) (by kernel_rfl) (by kernel_rfl) (by kernel_rfl) (fun d _ _ _ _ h => by cases d <;> exact h) (fun oi ho K hK => ?_)
          simp only [List.getElem?_toArray, List.getElem?_cons_succ, List.getElem?_cons_zero, Option.some.injEq] at ho
          subst ho
          rw [if_pos (by kernel_rfl)]
          refine ⟨.agg #[.int .i64 x.1.k, .string x.1.t.1, .int .i64 x.1.n, .int .i64 x.1.p], fun w' hw' => ?_, hK _ ?_⟩
          · have q0 := hw'.1.at 0 rfl; have q1 := hw'.2.1.at 0 rfl; have q2 := hw'.2.2.at 0 rfl; have q3 := hw'.2.2.at 1 rfl; have q4 := hw'.2.2.at 2 rfl; have q5 := hw'.2.2.at 3 rfl
            go_simp
          clear hK K
          refine wpAnyZ_calls 6 (by kernel_rfl) (fun oi ho K hK => ?_)
          simp only [List.getElem?_toArray, List.getElem?_cons_succ, List.getElem?_cons_zero, Option.some.injEq] at ho
          subst ho
          go_simp
          have b2 : Below U'.heap.size U' (U'.alloc (.cells #[.int .i64 x.1.k, .string x.1.t.1, .int .i64 x.1.n, .int .i64 x.1.p] 74)) := (Below.refl _ _).alloc (Nat.le_refl _) _
          have E9 := (unhide E8).up hWz b2
          refine hK _ _ (.inr ⟨E9.px, E9.bx, E9.wx⟩) ?_
          clear hK K
          obtain ⟨u, eu⟩ : ∃ u, u = U'.alloc (.cells #[.int .i64 x.1.k, .string x.1.t.1, .int .i64 x.1.n, .int .i64 x.1.p] 74) := ⟨_, rfl⟩
          have hnb' : Box u U'.heap.size 74 #[.int .i64 x.1.k, .string x.1.t.1, .int .i64 x.1.n, .int .i64 x.1.p] := by rw [eu]; exact Box.new _ _ _
          rw [← eu] at b2 E9 ⊢
          have hoU := E9.ow
          have hszu := E9.sz
          clear eu b2
          refine wpAnyZ_calls 7 (by kernel_rfl) (fun oi ho K hK => ?_)
          simp only [List.getElem?_toArray, List.getElem?_cons_succ, List.getElem?_cons_zero, Option.some.injEq] at ho
          subst ho
          refine step_own u (by rfl) (.tmp 36) (.tmp 38) 59 (by rfl) W4.heap.size 74 i0 (.agg #[.int .i64 0, .string ⟨#[]⟩, .int .i64 0, .int .i64 0]) 4 40 Tryz.underlying59 hi0 hz0 hz1 hz2 (by rfl) (by decide) (.slice ra pre.length rc) pre.length (newsP (pre.map fixW)) ?q1 hoU ⟨U'.heap.size, 0, none⟩ 1 1 #[.int .i64 x.1.k, .string x.1.t.1, .int .i64 x.1.n, .int .i64 x.1.p].toList ?q2 (by rfl) (news_box hnb') (fun q hq => newsP_one [⟨x.1.k, x.1.t, x.1.n, x.1.p⟩] q (by simpa [newsP] using hq)) (by unfold maxLen; omega) (by omega) (by omega) ?_
          case q1 => go_simp
          case q2 => go_simp
          intro v5 u5 ho5 hg5 hw5
          have fin := rd_grow E9 hWz hBz hWB hfx ho5 hg5
          clear E9 E8 hnb' hoU hszu ho5 hg5 hw5
          obtain ⟨a5, c5, rfl, px5, bx5, wx5, fin⟩ := fin
          replace fin := hide fin
          refine hK _ _ (.inr ⟨px5, bx5, wx5⟩) ?_
          clear hK K
          refine wpAnyZ_calls 8 (by kernel_rfl) (fun oi ho K hK => ?_)
          simp only [List.getElem?_toArray, List.getElem?_cons_succ, List.getElem?_cons_zero, Option.some.injEq] at ho
          subst ho
          go_simp
          refine hK _ _ (.inr ⟨px5, bx5, wx5⟩) ?_
          clear hK K
          refine wpAnyZ_calls 9 (by kernel_rfl) (fun oi ho K hK => ?_)
          simp only [List.getElem?_toArray, List.getElem?_cons_succ, List.getElem?_cons_zero, Option.some.injEq] at ho
          subst ho
          go_simp
          refine hK _ _ (.inr ⟨px5, bx5, wx5⟩) ?_
          clear hK K
          have hc1 := bx5.at 0 rfl
          have hf1 := bx5.frz 0
          clear px5 wx5 bx5
          refine wpAnyZ_calls 10 (by kernel_rfl) (fun oi ho K hK => ?_)
          simp only [List.getElem?_toArray, List.getElem?_cons_succ, List.getElem?_cons_zero, Option.some.injEq] at ho
          subst ho
          go_simp
          refine hK _ _ (.inl rfl) ?_
          clear hK K hc1 hf1
          refine wpAnyZ_done (by kernel_rfl) ?_ _
          exact unhide fin
      · have hfx : fixW x = x.1 := by rw [fixW, show decide (x.1.k = 2) = false from decide_eq_false hk]; rfl
        obtain ⟨q0, q1, q2, q3⟩ := E0.wx.four
        have hkb : (x.1.k == 2) = false := by simp [hk]
        have E := hide E0
        clear E0 ho hk
        gi_wp2_with fail
        refine ⟨trivial, ?_⟩
        gi_wp2_with fail
        refine ⟨trivial, ?_⟩
        gi_upto_region 8 with fail
        clear q0 q1 q2 q3 hkb
        replace E := unhide E
        gi_wp2_with fail
        obtain ⟨U', hU'⟩ : ∃ U', U' = ({ heap := V.heap, tape := V.tape, drawn := V.drawn + 1, os := V.os, output := V.output } : World) := ⟨_, rfl⟩
        have bU : Below V.heap.size V U' := by rw [hU']; exact (Below.refl _ _).drew
        have E8 := E.up hWz bU
        have cD : Box U' (B + 1) 56 #[.pointer (some ⟨B, 0, none⟩)] ∧ Box U' B 61 #[.slice ra pre.length rc, .int .i64 0, (.iface 49 (.int .i64 ex))] ∧ Box U' P6 74 #[.int .i64 x.1.k, .string x.1.t.1, .int .i64 x.1.n, .int .i64 x.1.p] := ⟨E8.px, E8.bx, E8.wx⟩
        refine wpIn_region_plain hmx (by kernel_rfl) ?no (wpAny_of_Z (z := 10) (C := fun w' => Box w' (B + 1) 56 #[.pointer (some ⟨B, 0, none⟩)] ∧ Box w' B 61 #[.slice ra pre.length rc, .int .i64 0, (.iface 49 (.int .i64 ex))] ∧ Box w' P6 74 #[.int .i64 x.1.k, .string x.1.t.1, .int .i64 x.1.n, .int .i64 x.1.p]) _ _ _ _ ?_)
        case no => exact fun ⟨a, w, h⟩ => h
        rw [← hU']
        replace E8 := hide E8
        clear hU' E bU
        refine wpAnyZ_reads 0 cD (by kernel_rfl) (by kernel_rfl) (by kernel_rfl) (by kernel_rfl) (fun d _ _ _ _ h => by cases d <;> exact h) (fun oi ho K hK => ?_)
        simp only [List.getElem?_toArray, List.getElem?_cons_zero, Option.some.injEq] at ho
        subst ho
        rw [if_pos (by kernel_rfl)]
        refine ⟨.pointer (some ⟨B, 0, none⟩), fun w' hw' => ?_, hK _ ?_⟩
        · have q0 := hw'.1.at 0 rfl; have q1 := hw'.2.1.at 0 rfl; have q2 := hw'.2.2.at 0 rfl; have q3 := hw'.2.2.at 1 rfl; have q4 := hw'.2.2.at 2 rfl; have q5 := hw'.2.2.at 3 rfl
          go_simp
        clear hK K
        refine wpAnyZ_reads 1 cD (by kernel_rfl) (by kernel_rfl) (by kernel_rfl) (by kernel_rfl) (fun d _ _ _ _ h => by cases d <;> exact h) (fun oi ho K hK => ?_)
        simp only [List.getElem?_toArray, List.getElem?_cons_succ, List.getElem?_cons_zero, Option.some.injEq] at ho
        subst ho
        rw [if_pos (by kernel_rfl)]
        refine ⟨.pointer (some ⟨B, 0, none⟩), fun w' hw' => ?_, hK _ ?_⟩
        · have q0 := hw'.1.at 0 rfl; have q1 := hw'.2.1.at 0 rfl; have q2 := hw'.2.2.at 0 rfl; have q3 := hw'.2.2.at 1 rfl; have q4 := hw'.2.2.at 2 rfl; have q5 := hw'.2.2.at 3 rfl
          go_simp
        clear hK K
        refine wpAnyZ_reads 2 cD (by kernel_rfl) (by kernel_rfl) (by kernel_rfl) (by kernel_rfl) (fun d _ _ _ _ h => by cases d <;> exact h) (fun oi ho K hK => ?_)
        simp only [List.getElem?_toArray, List.getElem?_cons_succ, List.getElem?_cons_zero, Option.some.injEq] at ho
        subst ho
        rw [if_pos (by kernel_rfl)]
        refine ⟨.pointer (some ⟨B, 0, none⟩), fun w' hw' => ?_, hK _ ?_⟩
        · clear hw'
          go_simp
        clear hK K
        refine wpAnyZ_reads 3 cD (by kernel_rfl) (by kernel_rfl) (by kernel_rfl) (by kernel_rfl) (fun d _ _ _ _ h => by cases d <;> exact h) (fun oi ho K hK => ?_)
        simp only [List.getElem?_toArray, List.getElem?_cons_succ, List.getElem?_cons_zero, Option.some.injEq] at ho
        subst ho
        rw [if_pos (by kernel_rfl)]
        refine ⟨.pointer (some ⟨B, 0, none⟩), fun w' hw' => ?_, hK _ ?_⟩
        · clear hw'
          go_simp
        clear hK K
        refine wpAnyZ_reads 4 cD (by kernel_rfl) (by kernel_rfl) (by kernel_rfl) (by kernel_rfl) (fun d _ _ _ _ h => by cases d <;> exact h) (fun oi ho K hK => ?_)
        simp only [List.getElem?_toArray, List.getElem?_cons_succ, List.getElem?_cons_zero, Option.some.injEq] at ho
        subst ho
        rw [if_pos (by kernel_rfl)]
        refine ⟨.slice ra pre.length rc, fun w' hw' => ?_, hK _ ?_⟩
        · have q0 := hw'.1.at 0 rfl; have q1 := hw'.2.1.at 0 rfl; have q2 := hw'.2.2.at 0 rfl; have q3 := hw'.2.2.at 1 rfl; have q4 := hw'.2.2.at 2 rfl; have q5 := hw'.2.2.at 3 rfl
          go_simp
        clear hK K
        refine wpAnyZ_reads 5 cD (by kernel_rfl) (by kernel_rfl) (by kernel_rfl) (by kernel_rfl) (fun d _ _ _ _ h => by cases d <;> exact h) (fun oi ho K hK => ?_)
        simp only [List.getElem?_toArray, List.getElem?_cons_succ, List.getElem?_cons_zero, Option.some.injEq] at ho
        subst ho
        rw [if_pos (by kernel_rfl)]
        refine ⟨.agg #[.int .i64 x.1.k, .string x.1.t.1, .int .i64 x.1.n, .int .i64 x.1.p], fun w' hw' => ?_, hK _ ?_⟩
        · have q0 := hw'.1.at 0 rfl; have q1 := hw'.2.1.at 0 rfl; have q2 := hw'.2.2.at 0 rfl; have q3 := hw'.2.2.at 1 rfl; have q4 := hw'.2.2.at 2 rfl; have q5 := hw'.2.2.at 3 rfl
          go_simp
        clear hK K
        refine wpAnyZ_calls 6 (by kernel_rfl) (fun oi ho K hK => ?_)
        simp only [List.getElem?_toArray, List.getElem?_cons_succ, List.getElem?_cons_zero, Option.some.injEq] at ho
        subst ho
        go_simp
        have b2 : Below U'.heap.size U' (U'.alloc (.cells #[.int .i64 x.1.k, .string x.1.t.1, .int .i64 x.1.n, .int .i64 x.1.p] 74)) := (Below.refl _ _).alloc (Nat.le_refl _) _
        have E9 := (unhide E8).up hWz b2
        refine hK _ _ (.inr ⟨E9.px, E9.bx, E9.wx⟩) ?_
        clear hK K
        obtain ⟨u, eu⟩ : ∃ u, u = U'.alloc (.cells #[.int .i64 x.1.k, .string x.1.t.1, .int .i64 x.1.n, .int .i64 x.1.p] 74) := ⟨_, rfl⟩
        have hnb' : Box u U'.heap.size 74 #[.int .i64 x.1.k, .string x.1.t.1, .int .i64 x.1.n, .int .i64 x.1.p] := by rw [eu]; exact Box.new _ _ _
        rw [← eu] at b2 E9 ⊢
        have hoU := E9.ow
        have hszu := E9.sz
        clear eu b2
        refine wpAnyZ_calls 7 (by kernel_rfl) (fun oi ho K hK => ?_)
        simp only [List.getElem?_toArray, List.getElem?_cons_succ, List.getElem?_cons_zero, Option.some.injEq] at ho
        subst ho
        refine step_own u (by rfl) (.tmp 36) (.tmp 38) 59 (by rfl) W4.heap.size 74 i0 (.agg #[.int .i64 0, .string ⟨#[]⟩, .int .i64 0, .int .i64 0]) 4 40 Tryz.underlying59 hi0 hz0 hz1 hz2 (by rfl) (by decide) (.slice ra pre.length rc) pre.length (newsP (pre.map fixW)) ?q1 hoU ⟨U'.heap.size, 0, none⟩ 1 1 #[.int .i64 x.1.k, .string x.1.t.1, .int .i64 x.1.n, .int .i64 x.1.p].toList ?q2 (by rfl) (news_box hnb') (fun q hq => newsP_one [⟨x.1.k, x.1.t, x.1.n, x.1.p⟩] q (by simpa [newsP] using hq)) (by unfold maxLen; omega) (by omega) (by omega) ?_
        case q1 => go_simp
        case q2 => go_simp
        intro v5 u5 ho5 hg5 hw5
        have fin := rd_grow E9 hWz hBz hWB hfx ho5 hg5
        clear E9 E8 hnb' hoU hszu ho5 hg5 hw5
        obtain ⟨a5, c5, rfl, px5, bx5, wx5, fin⟩ := fin
        replace fin := hide fin
        refine hK _ _ (.inr ⟨px5, bx5, wx5⟩) ?_
        clear hK K
        refine wpAnyZ_calls 8 (by kernel_rfl) (fun oi ho K hK => ?_)
        simp only [List.getElem?_toArray, List.getElem?_cons_succ, List.getElem?_cons_zero, Option.some.injEq] at ho
        subst ho
        go_simp
        refine hK _ _ (.inr ⟨px5, bx5, wx5⟩) ?_
        clear hK K
        refine wpAnyZ_calls 9 (by kernel_rfl) (fun oi ho K hK => ?_)
        simp only [List.getElem?_toArray, List.getElem?_cons_succ, List.getElem?_cons_zero, Option.some.injEq] at ho
        subst ho
        go_simp
        refine hK _ _ (.inr ⟨px5, bx5, wx5⟩) ?_
        clear hK K
        have hc1 := bx5.at 0 rfl
        have hf1 := bx5.frz 0
        clear px5 wx5 bx5
        refine wpAnyZ_calls 10 (by kernel_rfl) (fun oi ho K hK => ?_)
        simp only [List.getElem?_toArray, List.getElem?_cons_succ, List.getElem?_cons_zero, Option.some.injEq] at ho
        subst ho
        go_simp
        refine hK _ _ (.inl rfl) ?_
        clear hK K hc1 hf1
        refine wpAnyZ_done (by kernel_rfl) ?_ _
        exact unhide fin
    case done =>
      rintro D xs V3 hD rfl ⟨bV, hz, hp, ra, rc, hx, ho⟩ hd
      obtain ⟨p0, -⟩ := hp.one
      have HO := hide ho
      have HX := hide hx
      have HD := hide hd
      replace bV := hide bV
      clear ho hx hp hd told' J0
      gi_wp2_with fail
      refine ⟨by simp, .inl ⟨_, _, rfl, run_takeDeferred (show V3.heap[D]? = _ from unhide HD), ?_⟩⟩
      have hg := grownBy_putObj' V3 D (.deferred none)
      have hs2 := sm_grown hg (fun r e => by cases e; exact ⟨_, unhide HD, rfl⟩)
      have hol := own_sm hs2 (unhide HO)
      have hxl := (unhide HX).sm hs2
      have hWz := b04.size
      refine ⟨.pointer (some ⟨B, 0, none⟩), by simp [results, Tryz.results18, go_sem], B, rfl, hWB, ⟨Nat.le_refl _, hxl.lt, ra, rc, ?_, ?_, ?_, ?_⟩, ?_⟩
      · have := own_cap hol; simpa [readP] using this
      · simp [readP]; omega
      · rw [readP, ← unhide hev, List.length_map]; exact hxl
      · refine pws_own (base := W4.heap.size) (c := rc) ?_ (by omega) (Nat.le_refl _)
        simpa [readP] using hol
      · exact (unhide bV).grown hg (unhide bV).size (fun k e => by cases e; omega)
    case stop =>
      rintro D c pre V hD _ h _
      exact h.elim
/-- Package parse's read: a reader of the text's words. -/
theorem read_c (s : ByteArray) (hs : s.size ≤ 1000000) (W : World) (hV : Vars W) (hS : VarsS W) :
    Calls Tryz.prog 18 #[.string s] W fun r W' => ∃ B, r = .returned (.pointer (some ⟨B, 0, none⟩)) ∧ W.heap.size ≤ B ∧ RS W'.heap.size B W' (readP s) ∧ Below W.heap.size W W' := by
  refine read_core s hs W hV hS _ rfl ?_
  unfold errO
  split
  · exact .inl rfl
  · exact .inr ⟨_, rfl⟩

end Go.Proofs.YtmhpakhnclkenaaGreatDoor
