/-
  What the document's Nodes, IsExpr answer: for every tree that lies, its nodes no more than memory holds; nothing that lay is turned.
-/
import Derived.Test.YtfofpenajkaalaaDoorShowE
import Derived.Laws.AppendOwnNone
namespace Go.Proofs.YtfofpenajkaalaaDoor
open Go.RowKit Go.Shelf

/-- A node as it lies flat. -/
structure Nd where
  d : Dat
  a : Option Addr
  m : Nat
  cap : Nat
abbrev Nd.cs (x : Nd) : Array Value := x.d.cs x.a x.m x.cap
def newsN (l : List Nd) : List Value := l.flatMap fun x => x.cs.toList
theorem newsN_cons (x : Nd) (l : List Nd) : newsN (x :: l) = x.cs.toList ++ newsN l := by simp [newsN]
theorem newsN_append (l k : List Nd) : newsN (l ++ k) = newsN l ++ newsN k := by simp [newsN]
theorem newsN_len (l : List Nd) : (newsN l).length = l.length * 7 := by
  induction l with
  | nil => rfl
  | cons x l ih => rw [newsN_cons, List.length_append, ih]; simp; omega
theorem newsN_at (l : List Nd) : ∀ (j : Nat) x, l[j]? = some x → ∀ i, i < 7 → (newsN l)[j * 7 + i]? = x.cs[i]? := by
  induction l with
  | nil => intro j x h; simp at h
  | cons y l ih =>
    intro j x h i hi
    rw [newsN_cons]
    cases j with
    | zero =>
      simp only [List.getElem?_cons_zero, Option.some.injEq] at h
      subst h
      rw [Nat.zero_mul, Nat.zero_add, List.getElem?_append_left (by simpa using hi), Array.getElem?_toList]
    | succ j =>
      rw [List.getElem?_append_right (by simp; omega)]
      have := ih j x (by simpa using h) i hi
      rw [← this]
      congr 1
      simp; omega
theorem newsN_one (l : List Nd) : ∀ u ∈ newsN l, u.oneCell' = true := by
  intro u hu
  simp only [newsN, List.mem_flatMap] at hu
  obtain ⟨x, _, hx⟩ := hu
  simp at hx
  rcases hx with rfl | rfl | rfl | rfl | rfl | rfl | rfl <;> simp [Value.oneCell']
abbrev zeroX : Value := .agg #[.int .i64 0, .int .i64 0, .int .i64 0, .string ⟨#[]⟩, .string ⟨#[]⟩, .string ⟨#[]⟩, .slice none 0 0]
theorem infoX : (Tryd.prog.info? 26).map (fun i => (i.zero, i.size, i.bytes)) = some (some zeroX, 7, 96) := by kernel_rfl

mutual
/-- How many nodes of a sign there are, as deep as is left. -/
def cntT (left : Nat) : Tree → Nat
  | .mk x ks => if x.op = 0 ∨ left = 0 then 0 else 1 + cntL (left - 1) ks
def cntL (left : Nat) : List Tree → Nat
  | [] => 0
  | t :: ts => cntT left t + cntL left ts
end
theorem cntL_append (n : Nat) (ts us : List Tree) : cntL n (ts ++ us) = cntL n ts + cntL n us := by
  induction ts with
  | nil => simp [cntL]
  | cons t ts ih => simp [cntL, ih]; omega
theorem cntL_take (n : Nat) (ts : List Tree) (k : Nat) : cntL n (ts.take k) ≤ cntL n ts := by
  conv => rhs; rw [← List.take_append_drop k ts, cntL_append]
  omega

/-- What nodes does with a node whose kids lie at a. -/
def NodesC (n₀ : Nat) (W0 : World) (a : Option Addr) (ks : List Tree) : Prop :=
  ∀ (d : Dat) (cap left : Nat) (W : World), left ≤ 20 → Sm n₀ W0 W → n₀ ≤ W.heap.size → cntT left (.mk d ks) ≤ 1073741824 →
    Calls Tryd.prog 34 #[d.v a ks.length cap, .int .i64 left] W fun r W' => ∃ v l, r = .returned v ∧ l.length = cntT left (.mk d ks) ∧ W'.ownsRow W.heap.size 26 7 v l.length (newsN l) ∧ Below W.heap.size W W'

theorem owns_base {W : World} {base base' : Nat} (hl : base' ≤ base) {e : TypeId} {size : Nat} {v : Value} {n : Nat} {xs : List Value} (h : W.ownsRow base e size v n xs) : W.ownsRow base' e size v n xs := by
  refine ⟨h.1, ?_⟩
  rcases h.2 with h0 | ⟨g, cap, cur, rfl, hb, hr⟩
  · exact .inl h0
  · exact .inr ⟨g, cap, cur, rfl, Nat.le_trans hl hb, hr⟩
theorem owns_cellsN {W : World} {base : Nat} {ad : Addr} {n c : Nat} {xs : List Value} (h : W.ownsRow base 26 7 (.slice (some ad) n c) n xs) : ∀ j u, xs[j]? = some u → W.cell? (ad.add j) = some u := by
  rcases h.2 with ⟨e, _⟩ | ⟨g, cap, cur, e, hb, hc, h1, h2, h3, h4⟩
  · simp at e
  · simp only [Value.slice.injEq, Option.some.injEq] at e
    obtain ⟨rfl, -, rfl⟩ := e
    intro j u hu
    rw [WideShapes.add_plain, Nat.zero_add]
    have hj := (List.getElem?_eq_some_iff.1 hu).1
    have hl := h.1
    rw [← h4, List.getElem?_take_of_lt (by omega), Array.getElem?_toList] at hu
    simp [World.cell?, hc, hu]

set_option maxRecDepth 100000 in
set_option maxHeartbeats 4000000 in
theorem nodes_step (n₀ : Nat) (W0 : World) (a : Option Addr) (ks : List Tree) (hlen : ks.length ≤ 1099511627776)
    (hK : ks = [] ∨ ∃ (b off : Nat) (f : Nat → Option Addr × Nat), a = some ⟨b, off, none⟩ ∧ b < n₀ ∧ (∀ j t, ks[j]? = some t → ∀ i u, (t.dat.cs (f j).1 t.kids.length (f j).2)[i]? = some u → W0.cell? ⟨b, off + j * 7 + i, none⟩ = some u) ∧ ∀ (j : Nat) t, ks[j]? = some t → NodesC n₀ W0 (f j).1 t.kids) :
    NodesC n₀ W0 a ks := by
  obtain ⟨i0, hi, hz0, hz1, hz2⟩ := info_parts infoX
  intro d cap left w hl20 hs hn hcnt
  obtain ⟨W, hW⟩ : ∃ W, W = w.alloc (.cells (d.cs a ks.length cap) 26) := ⟨_, rfl⟩
  have bW : Below w.heap.size w W := by rw [hW]; exact (Below.refl _ _).alloc (Nat.le_refl _) _
  have xb : Box W w.heap.size 26 (d.cs a ks.length cap) := by rw [hW]; exact Box.new _ _ _
  have HC := hide (show cntT left (.mk d ks) = if d.op = 0 ∨ left = 0 then 0 else 1 + cntL (left - 1) ks by rw [cntT])
  replace hcnt := hide hcnt
  replace hK := hide hK
  obtain ⟨h0, h1, h2, h3, h4, h5, h6⟩ := xb.seven
  go_enter Tryd.func34, Tryd.ntmps34
  go_upto_region 1 with fail
  rw [show Obj.cells #[Value.int .i64 d.op, .int .i64 d.k, .int .i64 d.n, .string d.s.1, .string d.al.1, .string d.fd.1, .slice a ks.length cap] 26 = Obj.cells (d.cs a ks.length cap) 26 from rfl, ← hW]
  clear hW
  by_cases o0 : d.op = 0
  · have e0 : (d.op == 0) = true := by simp [o0]
    rw [if_pos (.inl o0)] at HC
    clear o0
    go_wp2_with fail
    go_ret
    exact ⟨_, [], rfl, by rw [unhide HC]; rfl, World.ownsRow_nil _ _ _ _, bW⟩
  have e0 : (d.op == 0) = false := by simp [o0]
  by_cases l0 : left = 0
  · subst l0
    rw [if_pos (.inr rfl)] at HC
    clear o0
    go_wp2_with fail
    go_ret
    exact ⟨_, [], rfl, by rw [unhide HC]; rfl, World.ownsRow_nil _ _ _ _, bW⟩
  have e1 : ((left : Int) == 0) = false := by simp; omega
  rw [if_neg (by omega)] at HC
  clear o0
  go_upto_region 3 with fail
  go_wp2_with fail
  obtain ⟨W1, hW1⟩ : ∃ W1, W1 = W.alloc (.cells (d.cs a ks.length cap) 26) := ⟨_, rfl⟩
  rw [show Obj.cells #[Value.int .i64 d.op, .int .i64 d.k, .int .i64 d.n, .string d.s.1, .string d.al.1, .string d.fd.1, .slice a ks.length cap] 26 = Obj.cells (d.cs a ks.length cap) 26 from rfl, ← hW1]
  have b1 : Below W.heap.size W W1 := by rw [hW1]; exact (Below.refl _ _).alloc (Nat.le_refl _) _
  have own0 := hide (show W1.ownsRow W.heap.size 26 7 (.slice (some ⟨W.heap.size, 0, none⟩) 1 1) 1 (newsN [⟨d, a, ks.length, cap⟩]) from
    ⟨rfl, .inr ⟨W.heap.size, 1, d.cs a ks.length cap, rfl, Nat.le_refl _, by rw [hW1]; exact World.alloc_heap_new W _, Nat.le_refl _, by unfold maxLen; omega, rfl, by simp [newsN]⟩⟩)
  clear hW1 h0 h1 h2 h3 h4 h5 h6
  go_loopw [5, 6] (fun vo vi wr => ∃ (j : Nat) (l : List Nd), j ≤ ks.length ∧ vi = .int .i64 j ∧ Hid (l.length = 1 + cntL (left - 1) (ks.take j)) ∧ Hid (wr.ownsRow W.heap.size 26 7 vo l.length (newsN l)) ∧ Below W.heap.size W wr) (fun _ vi _ => ks.length - (intOf vi).toNat)
  case atStart => exact ⟨0, _, Nat.zero_le _, rfl, hide (by simp [cntL]), own0, b1⟩
  case round =>
    obtain ⟨j, l, hj, rfl, hll, hown, hB⟩ := hrel
    have xr := (xb.on hB xb.lt).seven.2.2.2.2.2.2
    have br : Below w.heap.size w wr := bW.trans (hB.mono bW.size)
    by_cases hlt : j < ks.length
    · rcases unhide hK with h | ⟨bb, off, f, ea, hbn, hcs, hV⟩
      · exfalso; rw [h] at hlt; simp at hlt
      obtain ⟨t, ht⟩ : ∃ t, ks[j]? = some t := ⟨_, List.getElem?_eq_getElem hlt⟩
      have htk := hide (show cntL (left - 1) (ks.take (j + 1)) = cntL (left - 1) (ks.take j) + cntT (left - 1) t by
        have e1 : ks.take (j + 1) = ks.take j ++ [t] := by rw [List.take_succ_eq_append_getElem hlt]; simp [List.getElem?_eq_getElem hlt] at ht; rw [ht]
        rw [e1, cntL_append]; simp [cntL])
      have hM := hide (show cntL (left - 1) (ks.take j) + cntT (left - 1) t ≤ 1073741823 by
        have h1 := unhide hcnt
        have h2 := cntL_take (left - 1) ks (j + 1)
        rw [unhide HC] at h1
        rw [unhide htk] at h2
        omega)
      have sr : Sm n₀ W0 wr := hs.trans (Sm.of_below (br.mono hn))
      have hcs' : ∀ i v, (t.dat.cs (f j).1 t.kids.length (f j).2)[i]? = some v → wr.cell? ⟨bb, off + j * 7 + i, none⟩ = some v := fun i v hv => sr.cell hbn (hcs j t ht i v hv)
      replace hV := hV j t ht
      clear hcs hK ht
      obtain ⟨dt, kt⟩ := t
      generalize f j = fk at hcs' hV
      obtain ⟨at', ct⟩ := fk
      simp only [Tree.dat, Tree.kids] at hcs' hV
      have hd0 := hcs' 0 _ rfl
      have hd1 := hcs' 1 _ rfl
      have hd2 := hcs' 2 _ rfl
      have hd3 := hcs' 3 _ rfl
      have hd4 := hcs' 4 _ rfl
      have hd5 := hcs' 5 _ rfl
      have hd6 := hcs' 6 _ rfl
      rw [Nat.add_zero] at hd0
      clear hcs'
      subst ea
      have hwr : n₀ ≤ wr.heap.size := Nat.le_trans hn br.size
      have cV := hV dt ct (left - 1) wr (by omega) sr hwr (by have := unhide hM; omega)
      rw [show ((left - 1 : Nat) : Int) = (left : Int) - 1 by omega] at cV
      replace cV := hide cV
      have hkl : (j : Int) < ks.length := by omega
      have hl1 : (1 : Int) ≤ left := by omega
      have hl2 : (left : Int) ≤ 20 := by omega
      clear hV l0
      go_wp2_with fail
      refine (unhide cV).mono ?_
      rintro e W5 ⟨v2, l2, rfl, hl2', hown2, hb5⟩
      clear cV hd0 hd1 hd2 hd3 hd4 hd5 hd6
      have hE := hB.trans (hb5.mono hB.size)
      have hownE := owns_on hb5 (unhide hown)
      have hz : l.length + l2.length ≤ 1073741824 := by have h1 := unhide hll; have h2 := unhide hM; omega
      have hlen2 := hide (show l.length + l2.length = 1 + cntL (left - 1) (ks.take (j + 1)) by rw [unhide hll, unhide htk, hl2']; omega)
      have hbs : W.heap.size ≤ W5.heap.size := hE.size
      replace hl2' := hide hl2'
      obtain ⟨a2, c2, rfl⟩ := owns_form hown2
      cases a2 with
      | none =>
        have e2 : l2 = [] ∧ c2 = 0 := by
          rcases hown2.2 with ⟨e, h0⟩ | ⟨g, cc, cur, e, _⟩
          · simp only [Value.slice.injEq] at e
            exact ⟨List.eq_nil_of_length_eq_zero h0, e.2.2⟩
          · simp at e
        obtain ⟨rfl, rfl⟩ := e2
        go_wp2_with (at_builtin; go_must (refine wpList_append_own_none rfl _ _ 24 rfl W.heap.size 26 i0 7 Tryd.underlying24 hi _ l.length (newsN l) rfl hownE rfl ?_))
        exact ⟨⟨j + 1, l, by omega, by go_num, hide (by have := unhide hlen2; simpa using this), hide hownE, hE⟩, by simp [intOf]; omega⟩
      | some ad =>
        have hnews := hide (owns_cellsN hown2)
        have hln := hide (newsN_len l2)
        have h1 := hide (newsN_one l2)
        replace hown2 := hide hown2
        go_wp2_with (at_builtin; go_must (refine wpList_append_own _ rfl _ _ 24 rfl W.heap.size 26 i0 zeroX 7 96 Tryd.underlying24 hi hz0 hz1 hz2 rfl (by decide) _ l.length (newsN l) rfl hownE ad l2.length c2 (newsN l2) rfl (unhide hln) (unhide hnews) (unhide h1) (by unfold maxLen; omega) (by omega) hbs ?_); intro v' w2 hown3 hgrow _)
        rw [← newsN_append] at hown3
        have hb2 : Below W.heap.size W w2 := hE.grown hgrow hbs (fun k e => (owns_low hownE e).1)
        replace hown3 := hide (show w2.ownsRow W.heap.size 26 7 v' (l ++ l2).length (newsN (l ++ l2)) by rw [List.length_append]; exact hown3)
        go_wp2_with fail
        exact ⟨⟨j + 1, l ++ l2, by omega, by go_num, hide (by rw [List.length_append]; exact unhide hlen2), hown3, hb2⟩, by simp [intOf]; omega⟩
    · have hl : l.length = cntT left (.mk d ks) := by
        have := unhide hll
        rw [List.take_of_length_le (by omega)] at this
        rw [unhide HC, this]
      replace hl := hide hl
      have hown' := hide (owns_base (show w.heap.size ≤ W.heap.size from bW.size) (unhide hown))
      have hn' : ¬ (j : Int) < ks.length := by omega
      go_wp2_with fail
      go_ret
      exact ⟨_, rfl, l, unhide hl, unhide hown', br⟩

theorem nodes_C (n₀ : Nat) (W0 : World) (a : Option Addr) (ks : List Tree) (hL : Lies n₀ W0 a ks) : NodesC n₀ W0 a ks := by
  induction hL with
  | nil a => exact nodes_step n₀ W0 a [] (by simp) (.inl rfl)
  | row b off ks f hl hb hc hk ih => exact nodes_step n₀ W0 _ ks hl (.inr ⟨b, off, f, rfl, hb, hc, ih⟩)

theorem nodes_c (d : Dat) (cap : Nat) (a : Option Addr) (ks : List Tree) (W : World) (hL : Lies W.heap.size W a ks) (hM : cntT 20 (.mk d ks) ≤ 1073741824) :
    Calls Tryd.prog 18 #[d.v a ks.length cap] W fun r W' => ∃ v l, r = .returned v ∧ l.length = cntT 20 (.mk d ks) ∧ W'.ownsRow W.heap.size 26 7 v l.length (newsN l) ∧ Below W.heap.size W W' := by
  obtain ⟨W0, hW0⟩ : ∃ W0, W0 = W.alloc (.cells (d.cs a ks.length cap) 26) := ⟨_, rfl⟩
  have b0 : Below W.heap.size W W0 := by rw [hW0]; exact (Below.refl _ _).alloc (Nat.le_refl _) _
  have x0 : Box W0 W.heap.size 26 (d.cs a ks.length cap) := by rw [hW0]; exact Box.new _ _ _
  obtain ⟨h0, h1, h2, h3, h4, h5, h6⟩ := x0.seven
  have cN := hide (nodes_C W0.heap.size W0 a ks (hL.on b0) d cap 20 W0 (Nat.le_refl _) (Sm.refl _ _) (Nat.le_refl _) hM)
  go_enter Tryd.func18, Tryd.ntmps18
  go_upto_region 1 with fail
  rw [show Obj.cells #[Value.int .i64 d.op, .int .i64 d.k, .int .i64 d.n, .string d.s.1, .string d.al.1, .string d.fd.1, .slice a ks.length cap] 26 = Obj.cells (d.cs a ks.length cap) 26 from rfl, ← hW0]
  clear hW0
  go_wp2_with fail
  refine (unhide cN).mono ?_
  rintro e W1 ⟨v, l, rfl, hl, hown, hb⟩
  replace hown := hide (owns_base (show W.heap.size ≤ W0.heap.size from b0.size) hown)
  replace hl := hide hl
  go_wp2_with fail
  go_ret
  exact ⟨_, l, rfl, unhide hl, unhide hown, b0.trans (hb.mono b0.size)⟩

theorem sound_op0 {d : Dat} {m : Nat} (h : soundB d m = true) : ¬ (d.op = 0) := fun e => by have := (sound_op h).1; omega
mutual
/-- Every step of a walk is as it may be where the tree is shaped. -/
theorem shaped_all (n : Nat) : ∀ t : Tree, (walkT n t).all okS = shapedT n t
  | .mk x ks => by
    rw [walkT, shapedT, List.all_cons]
    have e : okS (n, Tree.mk x ks) = (decide (n ≤ 5) && soundB x ks.length) := rfl
    rw [e]
    by_cases h5 : n ≤ 5
    · cases hs : soundB x ks.length
      · simp
      · rw [if_neg (fun h => by rcases h with h | h; exact sound_op0 hs h; omega), shapedL_all (n + 1) ks]
    · simp [h5]
theorem shapedL_all (n : Nat) : ∀ ts : List Tree, (walkL n ts).all okS = shapedL n ts
  | [] => by simp [walkL, shapedL]
  | t :: ts => by rw [walkL, shapedL, List.all_append, shaped_all n t, shapedL_all n ts]
end
mutual
/-- How many nodes a shaped tree has: as many as its walk has steps. -/
theorem shaped_cnt (n : Nat) : ∀ t : Tree, shapedT n t = true → (walkT n t).length = cntT (21 - n) t
  | .mk x ks, h => by
    rw [shapedT, Bool.and_eq_true, Bool.and_eq_true, decide_eq_true_eq] at h
    obtain ⟨⟨h5, hs⟩, hk⟩ := h
    rw [walkT, cntT, if_neg (fun h => by rcases h with h | h; exact sound_op0 hs h; omega), if_neg (fun h => by rcases h with h | h; exact sound_op0 hs h; omega), List.length_cons, shapedL_cnt (n + 1) ks hk, show 21 - n - 1 = 21 - (n + 1) by omega]
    omega
theorem shapedL_cnt (n : Nat) : ∀ ts : List Tree, shapedL n ts = true → (walkL n ts).length = cntL (21 - n) ts
  | [], _ => by simp [walkL, cntL]
  | t :: ts, h => by
    rw [shapedL, Bool.and_eq_true] at h
    rw [walkL, cntL, List.length_append, shaped_cnt n t h.1, shapedL_cnt n ts h.2]
end
theorem kidsN_two (op : Int) : kidsN op ≤ 2 := by unfold kidsN; split; omega; split <;> omega
mutual
theorem shaped_few (n : Nat) : ∀ t : Tree, shapedT n t = true → cntT (21 - n) t + 1 ≤ 2 ^ (6 - n)
  | .mk x ks, h => by
    rw [shapedT, Bool.and_eq_true, Bool.and_eq_true, decide_eq_true_eq] at h
    obtain ⟨⟨h5, hs⟩, hk⟩ := h
    have h2 : ks.length ≤ 2 := by rw [(sound_op hs).2.2.1]; exact kidsN_two _
    have hL := shapedL_few (n + 1) ks hk
    rw [cntT, if_neg (fun h => by rcases h with h | h; exact sound_op0 hs h; omega), show 21 - n - 1 = 21 - (n + 1) by omega]
    have e : 6 - n = (6 - (n + 1)) + 1 := by omega
    rw [e, Nat.pow_succ]
    have hp : 0 < 2 ^ (6 - (n + 1)) := Nat.two_pow_pos _
    generalize 2 ^ (6 - (n + 1)) = p at hL hp ⊢
    have : ks.length * (p - 1) ≤ 2 * (p - 1) := Nat.mul_le_mul_right _ h2
    omega
theorem shapedL_few (n : Nat) : ∀ ts : List Tree, shapedL n ts = true → cntL (21 - n) ts ≤ ts.length * (2 ^ (6 - n) - 1)
  | [], _ => by simp [cntL]
  | t :: ts, h => by
    rw [shapedL, Bool.and_eq_true] at h
    have h1 := shaped_few n t h.1
    have h2 := shapedL_few n ts h.2
    rw [cntL, List.length_cons, Nat.add_mul]
    omega
end
theorem isT_shaped (t : Tree) : isT t = (shapedT 1 t && decide (cntT 20 t ≤ 24)) := by
  rw [isT, goodL, shaped_all]
  cases h : shapedT 1 t
  · simp
  · rw [shaped_cnt 1 t h]; simp

set_option maxRecDepth 100000 in
set_option maxHeartbeats 2000000 in
theorem refIsE_c (d : Dat) (cap : Nat) (a : Option Addr) (ks : List Tree) (W : World) (hL : Lies W.heap.size W a ks) :
    Calls Tryd.prog 14 #[d.v a ks.length cap] W fun r W' => r = .returned (.bool (isT (.mk d ks))) ∧ Below W.heap.size W W' := by
  have HI := hide (isT_shaped (.mk d ks))
  obtain ⟨W0, hW0⟩ : ∃ W0, W0 = W.alloc (.cells (d.cs a ks.length cap) 26) := ⟨_, rfl⟩
  have b0 : Below W.heap.size W W0 := by rw [hW0]; exact (Below.refl _ _).alloc (Nat.le_refl _) _
  have x0 : Box W0 W.heap.size 26 (d.cs a ks.length cap) := by rw [hW0]; exact Box.new _ _ _
  obtain ⟨h0, h1, h2, h3, h4, h5, h6⟩ := x0.seven
  have cS := hide (shaped_c d cap a ks W0 (hL.on b0))
  obtain ⟨q, hq⟩ : ∃ q, q = shapedT 1 (.mk d ks) := ⟨_, rfl⟩
  rw [← hq] at cS HI
  replace hq := hide hq
  go_enter Tryd.func14, Tryd.ntmps14
  go_upto_region 1 with fail
  rw [show Obj.cells #[Value.int .i64 d.op, .int .i64 d.k, .int .i64 d.n, .string d.s.1, .string d.al.1, .string d.fd.1, .slice a ks.length cap] 26 = Obj.cells (d.cs a ks.length cap) 26 from rfl, ← hW0]
  clear hW0
  go_wp2_with fail
  refine (unhide cS).mono ?_
  rintro e W1 ⟨rfl, hb1⟩
  have b1 := b0.trans (hb1.mono b0.size)
  have x1 := x0.on hb1 x0.lt
  clear cS h0 h1 h2 h3 h4 h5 h6
  obtain ⟨h0, h1, h2, h3, h4, h5, h6⟩ := x1.seven
  cases q
  · go_wp2_with fail
    go_ret
    exact ⟨by rw [unhide HI]; rfl, b1⟩
  have cN := hide (nodes_c d cap a ks W1 (hL.on b1) (by have := shaped_few 1 _ (unhide hq).symm; simp at this; omega))
  clear hq
  go_wp2_with fail
  refine (unhide cN).mono ?_
  rintro e W2 ⟨v, l, rfl, hl, hown, hb⟩
  obtain ⟨a', c', rfl⟩ := owns_form hown
  clear hown cN
  have b2 := b1.trans (hb.mono b1.size)
  rw [Bool.true_and, ← hl] at HI
  clear hl
  go_wp2_with fail
  go_ret
  exact ⟨by rw [unhide HI]; simp; omega, b2⟩

end Go.Proofs.YtfofpenajkaalaaDoor
