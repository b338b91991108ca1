/-
  What slices.Collect makes of the walk over types, and what Apply answers (package evolve): the types behind the change in new memory, and why it may not be; for every schema of at most 5 types of at most 5 fields and every change, in whatever world; nothing that lay is turned.
-/
import Derived.Test.YtcjpaldijngnpaaGreatDoorTypes
import Derived.Test.YtcjpaldijngnpaaGreatDoorRefusal
namespace Go.Proofs.YtcjpaldijngnpaaGreatDoor
open Go.RowKit Go.Shelf

attribute [local go_sem] Oper.semAt_some

theorem infoTy : (Tryz.prog.info? 69).map (fun i => (i.zero, i.size, i.bytes)) = some (some (.agg #[.string ⟨#[]⟩, .slice none 0 0]), 2, 40) := by kernel_rfl

/-- The cells of a row of types. -/
def newsT (xs : List Tw) : List Value := xs.flatMap fun x => [.string x.1.1.1, .slice x.2.1 x.1.2.length x.2.2]
theorem newsT_len (xs : List Tw) : (newsT xs).length = xs.length * 2 := by
  induction xs with
  | nil => rfl
  | cons f xs ih => simp only [newsT, List.flatMap_cons, List.length_append, List.length_cons, List.length_nil] at ih ⊢; omega
theorem newsT_at (xs : List Tw) : ∀ j (h : j < xs.length), (newsT xs)[j * 2]? = some (.string xs[j].1.1.1) ∧ (newsT xs)[j * 2 + 1]? = some (.slice xs[j].2.1 xs[j].1.2.length xs[j].2.2) := by
  induction xs with
  | nil => intro j hj; simp at hj
  | cons f xs ih =>
    intro j hj
    cases j with
    | zero => simp [newsT]
    | succ j =>
      have := ih j (by simpa using hj)
      have e : newsT (f :: xs) = .string f.1.1.1 :: .slice f.2.1 f.1.2.length f.2.2 :: newsT xs := by simp [newsT]
      rw [e, show (j + 1) * 2 = j * 2 + 1 + 1 by omega]
      simpa using this

/-- A row of types that owns its rows of fields, as a schema's types. -/
theorem typs_of_owns {W : World} {base base' : Nat} {v : Value} {xs : List Tw} (h : W.ownsRow base 69 2 v xs.length (newsT xs)) (ho : ∀ x ∈ xs, Tw.own base' W x) (h6 : ∀ x ∈ xs, x.1.2.length ≤ maxLen) : ∃ a c, v = .slice a xs.length c ∧ Typs W.heap.size W a (xs.map (·.1)) := by
  rcases h.2 with ⟨rfl, h0⟩ | ⟨g, cap, cur, rfl, hbase, hg, _, _, _, htake⟩
  · rw [h0]; exact ⟨_, _, rfl, .inl (by rw [List.length_eq_zero_iff.1 h0]; rfl)⟩
  · refine ⟨_, _, rfl, .inr ⟨g, 0, rfl, (Array.getElem?_eq_some_iff.1 hg).1, fun j hj => ?_⟩⟩
    rw [List.length_map] at hj
    have e2 : ∀ i, i < xs.length * 2 → (cur.toList.take (xs.length * 2))[i]? = cur[i]? := fun i hi => by rw [List.getElem?_take, if_pos hi, Array.getElem?_toList]
    rw [htake] at e2
    have h1 := e2 (j * 2) (by omega)
    have h2 := e2 (j * 2 + 1) (by omega)
    rw [(newsT_at xs j hj).1] at h1
    rw [(newsT_at xs j hj).2] at h2
    have et : ty (xs.map (·.1)) j = xs[j].1 := by simp [ty, hj]
    have hm : xs[j] ∈ xs := List.getElem_mem hj
    rw [et]
    obtain ⟨a', c', e', hF, -⟩ := flds_of_owns (ho _ hm)
    cases e'
    exact ⟨by simp [World.cell?, hg, ← h1], xs[j].2.1, xs[j].2.2, by simp [World.cell?, hg, ← h2], hF, h6 _ hm⟩

set_option maxRecDepth 100000 in
set_option maxHeartbeats 4000000 in
theorem appendSeq_in (n : Nat) (hn : 3 ≤ n) (Bs Bc n₀ cap : Nat) (a : Option Addr) (ts : List Ty) (c : Ch) (h5 : ts.length ≤ 5) (hk5 : ∀ k, (ty ts k).2.length ≤ 5) (w : World) (hn₀ : n₀ ≤ w.heap.size) (hBs : Box w Bs 24 #[.slice a ts.length cap]) (hBc : Box w Bc 42 c.cs) (hT : Typs n₀ w a ts) :
    CallsIn Fence.wide n Tryz.prog 92 #[.slice none 0 0, .func (.func 93) #[] #[.pointer (some ⟨Bc, 0, none⟩), .pointer (some ⟨Bs, 0, none⟩)]] w fun e W' => ∃ (v : Value) (xs : List Tw), e = .returned v ∧ (xs.map (·.1) = tNew c ts ∧ ∀ x ∈ xs, Tw.own n₀ W' x) ∧ W'.ownsRow w.heap.size 69 2 v xs.length (newsT xs) ∧ Below w.heap.size w W' := by
  have h1 : 1 ≤ n := by omega
  have hro : Fence.wide.round = none := rfl
  obtain ⟨i0, hi, hz0, hz1, hz2⟩ := info_parts infoTy
  refine callsIn_of_wp_marks Tryz.func92 rfl trivial ?_ rfl
  simp only [Tryz.ntmps92, List.size_toArray, List.length_cons, List.length_nil, Nat.reduceAdd, Nat.reduceSub, Array.replicate_succ, Array.replicate_zero, List.push_toArray, List.append_toArray, List.nil_append, List.cons_append]
  gi_wp2
  have x0 := Box.new w 22 #[.slice none 0 0]
  have bW : Below w.heap.size w (w.alloc (.cells #[.slice none 0 0] 22)) := (Below.refl _ w).alloc (Nat.le_refl _) _
  have hls := hBs.lt
  have hlc := hBc.lt
  obtain ⟨W0, hW0⟩ : ∃ W0, W0 = w.alloc (.cells #[.slice none 0 0] 22) := ⟨_, rfl⟩
  have e0 : W0.heap.size = w.heap.size + 1 := by rw [hW0]; simp
  rw [← hW0] at x0 bW ⊢
  clear hW0
  refine wpIn_rangeFunc_allM hro h1 (gf := 93) (lb := #[.pointer (some ⟨Bc, 0, none⟩), .pointer (some ⟨Bs, 0, none⟩)]) rfl trivial (enters_of Tryz.func93 (by kernel_rfl) rfl)
    (types_all (n - 1) (by omega) Bs Bc n₀ cap a ts c h5 hk5 W0 (by omega) (hBs.on bW hls) (hBc.on bW hlc) (hT.below (bW.mono hn₀))) KeepM.trans
    (fun m W l o o' hl hm h hc hw => ⟨⟨by simp, fun k hk hlt => World.putObj_heap_other (fun e => by
        subst e
        rcases hk with hk | ⟨cs, hk⟩
        · omega
        · rw [h] at hk; cases hk; cases hc)⟩, fun k hk hlt => World.putObj_heap_other (by omega)⟩) (Below.refl _ _) (fun _ => rfl)
    (fun m pre W => (∃ v, Box W w.heap.size 22 #[v] ∧ W.ownsRow (w.heap.size + 1) 69 2 v pre.length (newsT pre) ∧ ∀ g, v.ownBlock = some g → g < m) ∧ (Below w.heap.size w W ∧ w.heap.size < m))
    (fun m => OwnFrom.and (Own.from (fun s A B row hs hg hr => by
      obtain ⟨v, h1, h2, h3⟩ := hs
      exact ⟨v, box_own _ _ (fun _ => _) s A B row h1 hg hr, own_row _ _ _ v (fun _ => _) (fun _ => _) s A B row h2 hg hr, h3⟩) _)
      (OwnFrom.and (ownFrom_below (Nat.le_refl _) bW.size) (ownFrom_pure _ (fun _ => _))))
    (fun ⟨⟨v, h1, h2, h3⟩, h4, h5⟩ hm => ⟨⟨v, h1, h2, fun g hg => Nat.lt_of_lt_of_le (h3 g hg) hm⟩, h4, Nat.lt_of_lt_of_le h5 hm⟩)
    (fun s A B row hs hg hr => ⟨hs.1, fun x hx => own_row _ _ _ (.slice x.2.1 x.1.2.length x.2.2) (fun _ => x.1.2.length) (fun _ => newsF x.1.2) s A B row (hs.2 x hx) hg (fun r e => (hr r e).2)⟩)
    ⟨⟨_, x0, World.ownsRow_nil _ _ _ _, fun g hg => by cases hg⟩, bW, by omega⟩
    (fun x a1 W => ∃ Bf, Box W Bf 69 #[.string x.1.1.1, .slice x.2.1 x.1.2.length x.2.2] ∧ a1 = { tmps := #[.slice none 0 0, .func (.func 93) #[] #[.pointer (some ⟨Bc, 0, none⟩), .pointer (some ⟨Bs, 0, none⟩)], .pointer (some ⟨w.heap.size, 0, none⟩), undef, .slice none 0 0, .pointer (some ⟨Bf, 0, none⟩), .func (.func 93) #[] #[.pointer (some ⟨Bc, 0, none⟩), .pointer (some ⟨Bs, 0, none⟩)], .agg #[.string x.1.1.1, .slice x.2.1 x.1.2.length x.2.2], undef, undef, undef, undef, undef], defers := [] })
    (fun x a1 s A B row hs hg hr => by
      obtain ⟨Bf, hf, e⟩ := hs
      exact ⟨Bf, box_own _ _ (fun _ => _) s A B row hf hg (fun r e => (hr r e).2), e⟩) ?assign ?body ?done
  case assign =>
    rintro m l pre x W K ⟨⟨v, hb, hr, hg⟩, hB, hm⟩ hmW hK
    gi_wp2
    refine hK _ _ ?_ ?_ ?_ ?_
    · exact (keeps_below ((Below.refl _ W).alloc (Nat.le_refl _) _)).from _
    · exact KeepM.below ((Below.refl _ W).alloc (Nat.le_refl _) _)
    · exact ⟨⟨v, hb.alloc _, hr.alloc _, hg⟩, hB.alloc hB.size _, hm⟩
    · exact ⟨W.heap.size, Box.new W 69 _, rfl⟩
  case body =>
    rintro m l pre x a1 W hl hr ⟨⟨v, hb, hrow, hg⟩, hB, hm⟩ hmW ⟨Bf, hf, rfl⟩ hlt
    obtain ⟨hf0, hf1⟩ := hf.two
    have hc0 := hb.one.1
    have hsz := hB.size
    have hg := hide hg
    gi_wp2_with (gi_at_builtin; refine wpListIn_append_own_at _ rfl _ _ 22 rfl (w.heap.size + 1) 69 i0 (.agg #[.string ⟨#[]⟩, .slice none 0 0]) 2 40 Tryz.underlying22 hi hz0 hz1 hz2 rfl (by decide) _ _ _ rfl (hrow.alloc _) ⟨W.heap.size, 0, none⟩ 1 1 [.string x.1.1.1, .slice x.2.1 x.1.2.length x.2.2] rfl rfl (cell_two_new _ _ _ _) (by simp [Value.oneCell']) (by unfold maxLen; omega) (by omega) (by simp; omega) ?_; intro v' w2 hown' hgrow _ _; obtain ⟨g', cap', rfl⟩ := ownsRow_succ hown'; obtain ⟨hv1, hv2, hr2, hk2, hkk, hbb⟩ := appended 0 hb (by omega) hrow (by omega) hown' hgrow; have hd0 := hv1.one.1; have hfz := hv1.frz 0)
    have hsame : ∀ k, k < W.heap.size → k ≠ w.heap.size → v.ownBlock ≠ some k → (w2.setCell ⟨w.heap.size, 0, none⟩ (.slice (some ⟨g', 0, none⟩) (pre.length + 1) cap')).heap[k]? = W.heap[k]? := fun k h1 h2 h3 => by
      rw [setCell_block _ _ _ (by simp only; omega)]
      exact (hgrow.block k (by simp; omega) (fun e => h3 e.symm)).trans (Below.heap_alloc _ _ _ h1)
    refine ⟨hk2.from _, ⟨⟨hkk.size, fun k hk h1 => hsame k h1 ?_ ?_⟩, fun k hk h1 => hsame k h1 (by omega) (fun e => by have := unhide hg k e; omega)⟩, ⟨_, hv2, ?_, ?_⟩, hB.trans (hbb _ (by omega)), ?_⟩
    · intro e
      subst e
      rcases hk with hk | ⟨cs, hk⟩
      · omega
      · rw [show W.heap[w.heap.size]? = _ from hb] at hk; cases hk
    · intro e
      obtain ⟨h2, cur, h3⟩ := owns_lt hrow e
      rcases hk with hk | ⟨cs, hk⟩
      · omega
      · rw [h3] at hk; cases hk
    · have e1 : (pre ++ [x]).length = pre.length + 1 := by simp
      have e2 : newsT (pre ++ [x]) = newsT pre ++ [.string x.1.1.1, .slice x.2.1 x.1.2.length x.2.2] := by simp [newsT]
      rw [e1, e2]
      exact hr2
    · intro g hg
      obtain ⟨_, cur, h3⟩ := owns_lt hr2 hg
      exact (Array.getElem?_eq_some_iff.1 h3).1
    · have := hkk.size; omega
  case done =>
    rintro D ys W hD ⟨hys, hown⟩ ⟨⟨v, hb, hrow, -⟩, hB, -⟩ hK
    have hc0 := hb.one.1
    replace hown := hide hown
    replace hrow := hide hrow
    replace hys := hide hys
    gi_wp2
    refine ⟨by simp, .inl ⟨_, _, rfl, run_takeDeferred hK, ?_⟩⟩
    exact ⟨_, results_tmp rfl _ _ _, v, ys, rfl, ⟨unhide hys, fun x hx => ownsRow_putObj (unhide hown x hx) _ hK rfl⟩, owns_base (by omega) (ownsRow_putObj (unhide hrow) _ hK rfl), hB.trans (belowK_b (w := w) (Nat.le_refl _) W D _ _ (by omega) hK rfl rfl)⟩

set_option maxHeartbeats 1000000 in
theorem collect_c (Bs Bc n₀ cap : Nat) (a : Option Addr) (ts : List Ty) (c : Ch) (h5 : ts.length ≤ 5) (hk5 : ∀ k, (ty ts k).2.length ≤ 5) (w : World) (hn₀ : n₀ ≤ w.heap.size) (hBs : Box w Bs 24 #[.slice a ts.length cap]) (hBc : Box w Bc 42 c.cs) (hT : Typs n₀ w a ts) :
    Calls Tryz.prog 64 #[.func (.func 93) #[] #[.pointer (some ⟨Bc, 0, none⟩), .pointer (some ⟨Bs, 0, none⟩)]] w fun e W' => ∃ (v : Value) (xs : List Tw), e = .returned v ∧ (xs.map (·.1) = tNew c ts ∧ ∀ x ∈ xs, Tw.own n₀ W' x) ∧ W'.ownsRow w.heap.size 69 2 v xs.length (newsT xs) ∧ Below w.heap.size w W' := by
  have cc := hide (callsIn_wide.1 (appendSeq_in 3 (Nat.le_refl _) Bs Bc n₀ cap a ts c h5 hk5 w hn₀ hBs hBc hT))
  go_enter Tryz.func64, Tryz.ntmps64
  go_wp2_with fail
  refine (unhide cc).mono ?_
  rintro e w1 ⟨v, xs, rfl, h1, h2, hb1⟩
  replace h1 := hide h1
  replace h2 := hide h2
  go_wp2_with fail
  go_ret
  exact ⟨v, xs, rfl, unhide h1, unhide h2, hb1⟩

/-- No change. -/
abbrev noTxt : Txt := ⟨⟨#[]⟩, by unfold maxLen; decide⟩
abbrev noCh : Ch := ⟨0, noTxt, noTxt, noTxt, 0, 0, noTxt⟩
theorem fchg_no (mine : Bool) (c : Ch) (h2 : c.k ≠ 2) (h3 : c.k ≠ 3) (h4 : c.k ≠ 4) (f : Fd) : fchg mine c f = some f := by
  unfold fchg
  rw [if_neg h2, if_neg h3, if_neg h4]
  split <;> rfl
theorem fTo_all {mine : Bool} {c : Ch} (h : ∀ f, fchg mine c f = some f) (fs : List Fd) (k : Nat) (hk : k ≤ fs.length) : (fTo mine c fs k).map (·.2) = fs.take k := by
  induction k with
  | zero => simp [fTo]
  | succ k ih =>
    rw [fTo_succ, h, List.map_append, ih (by omega), List.take_succ_eq_append_getElem (by omega)]
    simp [fd, show k < fs.length by omega]
theorem fNew_no (nm : Txt) (c : Ch) (fs : List Fd) (h1 : (nm.1.toList == c.t.1.toList) = false ∨ (c.k ≠ 1 ∧ c.k ≠ 2 ∧ c.k ≠ 3 ∧ c.k ≠ 4)) : fNew nm c fs = fs := by
  unfold fNew fAll
  have e : ∀ f, fchg (nm.1.toList == c.t.1.toList) c f = some f := fun f => by
    rcases h1 with h | ⟨_, h2, h3, h4⟩
    · simp [fchg, h]
    · exact fchg_no _ c h2 h3 h4 f
  have hn : ((nm.1.toList == c.t.1.toList) && decide (c.k = 1)) = false := by
    rcases h1 with h | ⟨h, _⟩ <;> simp [h]
  rw [List.map_append, fTo_all e fs _ (Nat.le_refl _), List.take_length, hn]
  simp
theorem chgT_no (c : Ch) (t : Ty) (h : c.k ≠ 1 ∧ c.k ≠ 2 ∧ c.k ≠ 3 ∧ c.k ≠ 4) : chgT c t = t := by
  unfold chgT; rw [fNew_no t.1 c t.2 (.inr h)]
theorem plTo_no (c : Ch) (ts : List Ty) (h : c.k ≠ 5) (k : Nat) : plTo c ts k = true := by
  induction k with
  | zero => simp [plTo, h]
  | succ k ih => simp [plTo, ih]
theorem tTo_map (c : Ch) (ts : List Ty) (h : c.k ≠ 5) (k : Nat) (hk : k ≤ ts.length) : tTo c ts k = (ts.take k).map (chgT c) := by
  induction k with
  | zero => simp [tTo]
  | succ k ih =>
    have hp := plTo_no c ts h k
    rw [tTo, hp, ih (by omega), List.take_succ_eq_append_getElem (by omega), List.map_append]
    simp [ty, show k < ts.length by omega, -List.map_take]
theorem tNew_map (c : Ch) (ts : List Ty) (h : c.k ≠ 5) : tNew c ts = ts.map (chgT c) := by
  unfold tNew
  rw [plTo_no c ts h, tTo_map c ts h _ (Nat.le_refl _), List.take_length]
  simp
theorem tNew_no (ts : List Ty) : tNew noCh ts = ts := by
  rw [tNew_map noCh ts (by decide)]
  have : chgT noCh = id := by
    funext t
    exact chgT_no noCh t ⟨by decide, by decide, by decide, by decide⟩
  rw [this]; simp
/-- The types that Apply answers. -/
def appT (ts : List Ty) (c : Ch) : List Ty := if refE ts c = 0 then tNew c ts else ts

theorem fNew_len (nm : Txt) (c : Ch) (fs : List Fd) : (fNew nm c fs).length ≤ fs.length + 1 := by
  have := fTo_len (nm.1.toList == c.t.1.toList) c fs fs.length
  unfold fNew fAll
  split <;> simp <;> omega
theorem tTo_fs (c : Ch) (ts : List Ty) (hk5 : ∀ k, (ty ts k).2.length ≤ 5) (k : Nat) : ∀ t ∈ tTo c ts k, t.2.length ≤ 6 := by
  induction k with
  | zero => intro t ht; simp [tTo] at ht
  | succ k ih =>
    intro t ht
    rw [tTo] at ht
    rcases List.mem_append.1 ht with ht | ht
    · rcases List.mem_append.1 ht with ht | ht
      · exact ih t ht
      · split at ht
        · simp only [List.mem_singleton] at ht; rw [ht]; simp
        · simp at ht
    · simp only [List.mem_singleton] at ht
      rw [ht]
      have := fNew_len (ty ts k).1 c (ty ts k).2
      have := hk5 k
      simp only [chgT]
      omega
theorem tNew_fs (c : Ch) (ts : List Ty) (hk5 : ∀ k, (ty ts k).2.length ≤ 5) : ∀ t ∈ tNew c ts, t.2.length ≤ 6 := by
  intro t ht
  rcases List.mem_append.1 ht with ht | ht
  · exact tTo_fs c ts hk5 _ t ht
  · split at ht
    · simp at ht
    · simp only [List.mem_singleton] at ht; rw [ht]; simp

end Go.Proofs.YtcjpaldijngnpaaGreatDoor
