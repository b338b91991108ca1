/-
  What the document's SameExpr and Alias answer: for all trees, all rows of elements that lie, in whatever world; nothing that lay is turned.
-/
import Derived.Test.YtfofpenajkaalaaDoorShaped
namespace Go.Proofs.YtfofpenajkaalaaDoor
open Go.RowKit Go.Shelf

theorem neqV (k n k' n' : Int) (s s' : ByteArray) (W : World) : (binOp .neq 23 (.agg #[.int .i64 k, .int .i64 n, .string s]) (.agg #[.int .i64 k', .int .i64 n', .string s'])).run Tryd.prog W = .ok (.bool (!decide (k = k' ∧ n = n' ∧ s.toList = s'.toList))) W := by
  by_cases h1 : k = k'
  · by_cases h2 : n = n'
    · by_cases h3 : s.toList = s'.toList
      · subst h1 h2
        have e3 : (s.toList == s'.toList) = true := by simp [h3]
        go_simp
      · have e3 : (s.toList == s'.toList) = false := by simp [h3]
        go_simp
    · have e2 : (n == n') = false := by simp [h2]
      go_simp
  · have e1 : (k == k') = false := by simp [h1]
    go_simp

/-- What the document's SameExpr does with a node whose kids lie at a. -/
def RSameC (n₀ : Nat) (W0 : World) (a : Option Addr) (ks : List Tree) : Prop :=
  ∀ (d e : Dat) (cap cap' : Nat) (a' : Option Addr) (ls : List Tree) (W : World), Lies n₀ W0 a' ls → Sm n₀ W0 W → n₀ ≤ W.heap.size →
    Calls Tryd.prog 15 #[d.v a ks.length cap, e.v a' ls.length cap'] W fun r W' => r = .returned (.bool (sameT (.mk d ks) (.mk e ls))) ∧ Below W.heap.size W W'

set_option maxRecDepth 100000 in
set_option maxHeartbeats 4000000 in
theorem refSame_step (n₀ : Nat) (W0 : World) (a : Option Addr) (ks : List Tree) (hL : Lies n₀ W0 a ks)
    (hK : ks = [] ∨ ∃ (b off : Nat) (f : Nat → Option Addr × Nat), a = some ⟨b, off, none⟩ ∧ b < n₀ ∧ (∀ j t, ks[j]? = some t → ∀ i u, (t.dat.cs (f j).1 t.kids.length (f j).2)[i]? = some u → W0.cell? ⟨b, off + j * 7 + i, none⟩ = some u) ∧ ∀ (j : Nat) t, ks[j]? = some t → RSameC n₀ W0 (f j).1 t.kids) :
    RSameC n₀ W0 a ks := by
  have hmx : Tryd.prog.follows .mixedOrders = true := by kernel_rfl
  intro d e cap cap' a' ls W hL' hs hn
  obtain ⟨Wk, hWk⟩ : ∃ Wk, Wk = (W.alloc (.cells (d.cs a ks.length cap) 26)).alloc (.cells (e.cs a' ls.length cap') 26) := ⟨_, rfl⟩
  have bk : Below W.heap.size W Wk := by rw [hWk]; exact ((Below.refl _ _).alloc (Nat.le_refl _) _).alloc (by simp) _
  have xk : Box Wk W.heap.size 26 (d.cs a ks.length cap) := by rw [hWk]; exact (Box.new _ _ _).alloc _
  have yk : Box Wk (W.heap.size + 1) 26 (e.cs a' ls.length cap') := by
    have := Box.new (W.alloc (.cells (d.cs a ks.length cap) 26)) 26 (e.cs a' ls.length cap')
    simp only [World.size_alloc] at this
    rw [hWk]; exact this
  have H := hide (show sameT (.mk d ks) (.mk e ls) = (decide (d.op = e.op) && decide (d.k = e.k ∧ d.n = e.n ∧ d.s.1.toList = e.s.1.toList) && (d.al.1.toList == e.al.1.toList) && (d.fd.1.toList == e.fd.1.toList) && (decide (ks.length = ls.length) && sameL ks ls)) by rw [sameT]; rfl)
  have h1 := hL.len
  have h2 := hL'.len
  obtain ⟨z, hz⟩ : ∃ z, z = decide (d.k = e.k ∧ d.n = e.n ∧ d.s.1.toList = e.s.1.toList) := ⟨_, rfl⟩
  have heq : ∀ W, (binOp .neq 23 (.agg #[.int .i64 d.k, .int .i64 d.n, .string d.s.1]) (.agg #[.int .i64 e.k, .int .i64 e.n, .string e.s.1])).run Tryd.prog W = .ok (.bool (!z)) W := fun W => by rw [neqV, hz]
  rw [← hz] at H
  clear hz
  replace hK := hide hK
  obtain ⟨q0, q1, q2, q3, q4, q5, q6⟩ := xk.seven
  obtain ⟨p0, p1, p2, p3, p4, p5, p6⟩ := yk.seven
  go_enter Tryd.func15, Tryd.ntmps15
  go_upto_region 1 with fail
  rw [← hWk]
  clear hWk
  by_cases c1 : d.op = e.op
  case neg =>
    have e1 : (d.op != e.op) = true := by simp [c1]
    rw [decide_eq_false c1] at H
    clear c1
    go_wp2_with fail
    go_ret
    exact ⟨by rw [unhide H]; rfl, bk⟩
  have e1 : (d.op != e.op) = false := by simp [c1]
  rw [decide_eq_true c1] at H
  clear c1
  cases z
  · go_wp2_with fail
    go_ret
    exact ⟨by rw [unhide H]; rfl, bk⟩
  cases c3 : d.al.1.toList == e.al.1.toList
  · rw [c3] at H
    have c3' : (d.al.1.toList != e.al.1.toList) = true := by simp only [bne, c3]; rfl
    go_wp2_with fail
    all_goals go_ret
    all_goals exact ⟨by rw [unhide H]; rfl, bk⟩
  rw [c3] at H
  have c3' : (d.al.1.toList != e.al.1.toList) = false := by simp only [bne, c3]; rfl
  cases c4 : d.fd.1.toList == e.fd.1.toList
  · rw [c4] at H
    have c4' : (d.fd.1.toList != e.fd.1.toList) = true := by simp only [bne, c4]; rfl
    go_wp2_with fail
    all_goals go_ret
    all_goals exact ⟨by rw [unhide H]; rfl, bk⟩
  rw [c4] at H
  have c4' : (d.fd.1.toList != e.fd.1.toList) = false := by simp only [bne, c4]; rfl
  by_cases c5 : ks.length = ls.length
  case neg =>
    have e5 : ((ks.length : Int) != (ls.length : Int)) = true := by simp; omega
    rw [decide_eq_false c5] at H
    clear c5
    go_wp2_with fail
    go_ret
    exact ⟨by rw [unhide H]; rfl, bk⟩
  have e5 : ((ks.length : Int) != (ls.length : Int)) = false := by simp; omega
  rw [decide_eq_true c5] at H
  have H2 := hide (show sameT (.mk d ks) (.mk e ls) = sameL ks ls by rw [unhide H]; simp)
  clear H
  replace c5 := hide c5
  go_upto_region 3 with fail
  clear e1 c3 c3' c4 c4' e5 heq q0 q1 q2 q3 q4 q5 q6 p0 p1 p2 p3 p4 p5 p6
  go_wp2_with fail
  go_loopw [5] (fun i wr => ∃ k : Nat, k ≤ ks.length ∧ i = .int .i64 k ∧ Hid (sameL (ks.take k) (ls.take k) = true) ∧ Below Wk.heap.size Wk wr) (fun i _ => ks.length - (intOf i).toNat)
  case atStart => exact ⟨0, Nat.zero_le _, rfl, hide (by simp [sameL]), Below.refl _ _⟩
  case round =>
    obtain ⟨k, hk, rfl, hsm, hB⟩ := hrel
    have xr := (xk.on hB xk.lt).seven.2.2.2.2.2.2
    have yr := (yk.on hB yk.lt).seven.2.2.2.2.2.2
    have br : Below W.heap.size W wr := bk.trans (hB.mono bk.size)
    by_cases hlt : k < ks.length
    · have hlt2 : k < ls.length := by have := unhide c5; omega
      obtain ⟨t, ht⟩ : ∃ t, ks[k]? = some t := ⟨_, List.getElem?_eq_getElem hlt⟩
      obtain ⟨u, hu⟩ : ∃ u, ls[k]? = some u := ⟨_, List.getElem?_eq_getElem hlt2⟩
      have htk := hide (show sameL (ks.take (k + 1)) (ls.take (k + 1)) = sameT t u by
        have e1 : ks.take (k + 1) = ks.take k ++ [t] := by rw [List.take_succ_eq_append_getElem hlt]; simp [List.getElem?_eq_getElem hlt] at ht; rw [ht]
        have e2 : ls.take (k + 1) = ls.take k ++ [u] := by rw [List.take_succ_eq_append_getElem hlt2]; simp [List.getElem?_eq_getElem hlt2] at hu; rw [hu]
        rw [e1, e2, sameL_snoc _ _ _ _ (by have := unhide c5; simp; omega), unhide hsm, Bool.true_and])
      have sr : Sm n₀ W0 wr := hs.trans (Sm.of_below (br.mono hn))
      rcases unhide hK with h | ⟨b, off, f, ea, hbn, hcs, hV⟩
      · rw [h] at hlt; simp at hlt
      obtain ⟨b', off', a2, c2, ea', hbn', hL2, hcs2⟩ := hL'.cells hu
      have hcs' : ∀ i v, (t.dat.cs (f k).1 t.kids.length (f k).2)[i]? = some v → wr.cell? ⟨b, off + k * 7 + i, none⟩ = some v := fun i v hv => sr.cell hbn (hcs k t ht i v hv)
      replace hcs2 : ∀ i v, (u.dat.cs a2 u.kids.length c2)[i]? = some v → wr.cell? ⟨b', off' + k * 7 + i, none⟩ = some v := fun i v hv => sr.cell hbn' (hcs2 i v hv)
      replace hV := hV k t ht
      clear hcs hK ht hu
      obtain ⟨dt, kt⟩ := t
      obtain ⟨du, ku⟩ := u
      generalize f k = fk at hcs' hV
      obtain ⟨at', ct⟩ := fk
      simp only [Tree.dat, Tree.kids] at hcs' hV hcs2 hL2
      subst ea ea'
      have hwr : n₀ ≤ wr.heap.size := Nat.le_trans hn br.size
      have hd0 := cell_regrown (hcs' 0 _ rfl)
      have hd1 := cell_regrown (hcs' 1 _ rfl)
      have hd2 := cell_regrown (hcs' 2 _ rfl)
      have hd3 := cell_regrown (hcs' 3 _ rfl)
      have hd4 := cell_regrown (hcs' 4 _ rfl)
      have hd5 := cell_regrown (hcs' 5 _ rfl)
      have hd6 := cell_regrown (hcs' 6 _ rfl)
      have hg0 := cell_regrown (hcs2 0 _ rfl)
      have hg1 := cell_regrown (hcs2 1 _ rfl)
      have hg2 := cell_regrown (hcs2 2 _ rfl)
      have hg3 := cell_regrown (hcs2 3 _ rfl)
      have hg4 := cell_regrown (hcs2 4 _ rfl)
      have hg5 := cell_regrown (hcs2 5 _ rfl)
      have hg6 := cell_regrown (hcs2 6 _ rfl)
      rw [Nat.add_zero] at hd0 hg0
      clear hcs' hcs2
      have xg := cell_regrown xr
      have yg := cell_regrown yr
      have cV : Hid (∀ (dd : Nat) (oo : Array Obj), Calls Tryd.prog 15 #[dt.v at' kt.length ct, du.v a2 ku.length c2] (Sort.grow (redrawn wr dd) oo) fun r W' => r = .returned (.bool (sameT (.mk dt kt) (.mk du ku))) ∧ Below (Sort.grow (redrawn wr dd) oo).heap.size (Sort.grow (redrawn wr dd) oo) W') := hide fun dd oo => by
        have hbg := below_regrown wr dd oo
        exact hV dt du ct c2 a2 ku _ hL2 (sr.trans (Sm.of_below (hbg.mono hwr))) (Nat.le_trans hwr hbg.size)
      have hkl : (k : Int) < ks.length := by omega
      have hkl' : (k : Int) < ls.length := by omega
      clear hV hlt hlt2
      obtain ⟨st, hst⟩ : ∃ st, st = sameT (.mk dt kt) (.mk du ku) := ⟨_, rfl⟩
      rw [← hst] at cV htk
      clear hst
      go_upto_region 6 with fail
      refine wp_region_quiet_below hmx (by kernel_rfl) ?_
      repeat (quiet_step (first | (go_at_call 15; exact Calls.regrown_of (unhide cV _ _))))
      refine wpQuiet_nil ?_
      intro _ hw'
      obtain ⟨⟨dq, osq⟩, hw''⟩ := hw'
      subst hw''
      have hb5 := below_regrown wr dq osq
      generalize Sort.grow (redrawn wr dq) osq = W5 at hb5 ⊢
      clear cV hd0 hd1 hd2 hd3 hd4 hd5 hd6 hg0 hg1 hg2 hg3 hg4 hg5 hg6 xg yg
      have bE := hB.trans (hb5.mono hB.size)
      cases st
      · have hno := hide (show sameL ks ls = false from sameL_no ks ls (k + 1) (unhide htk))
        clear htk
        go_wp2_with fail
        go_ret
        exact ⟨by rw [unhide H2, unhide hno]; rfl, bk.trans (bE.mono bk.size)⟩
      · go_wp2_with fail
        go_roundw
        case rel => exact ⟨k + 1, by omega, by go_num, htk, bE⟩
        case measure => simp [intOf]; omega
    · have hke : sameL ks ls = true := by
        have := unhide hsm
        rwa [List.take_of_length_le (by omega), List.take_of_length_le (by have := unhide c5; omega)] at this
      have H3 := hide (show sameT (.mk d ks) (.mk e ls) = true by rw [unhide H2, hke])
      clear hke
      have hn' : ¬ (k : Int) < ks.length := by omega
      go_wp2_with fail
      go_ret
      exact ⟨by rw [unhide H3]; rfl, br⟩

theorem refSame_C (n₀ : Nat) (W0 : World) (a : Option Addr) (ks : List Tree) (hL : Lies n₀ W0 a ks) : RSameC n₀ W0 a ks := by
  induction hL with
  | nil a => exact refSame_step n₀ W0 a [] (.nil a) (.inl rfl)
  | row b off ks f hl hb hc hk ih => exact refSame_step n₀ W0 _ ks (.row b off ks f hl hb hc hk) (.inr ⟨b, off, f, rfl, hb, hc, ih⟩)

theorem refSame_c (d e : Dat) (cap cap' : Nat) (a a' : Option Addr) (ks ls : List Tree) (W : World) (hL : Lies W.heap.size W a ks) (hL' : Lies W.heap.size W a' ls) :
    Calls Tryd.prog 15 #[d.v a ks.length cap, e.v a' ls.length cap'] W fun r W' => r = .returned (.bool (sameT (.mk d ks) (.mk e ls))) ∧ Below W.heap.size W W' :=
  refSame_C W.heap.size W a ks hL d e cap cap' a' ls W hL' (Sm.refl _ _) (Nat.le_refl _)

/-- The first element of that alias. -/
def aliasN (es : List Em) (s : ByteArray) : Int := match es.findIdx? fun e => e.al.1.toList == s.toList with | some i => i | none => -1
theorem anyAl_no {es : List Em} {s : ByteArray} (h : anyAl es s = false) {j : Nat} {e : Em} (he : es[j]? = some e) : (e.al.1.toList == s.toList) = false := by
  cases hq : (e.al.1.toList == s.toList)
  · rfl
  · rw [anyAl, List.any_eq_false] at h
    exact absurd hq (h e (List.mem_of_getElem? he))
theorem aliasN_yes {es : List Em} {s : ByteArray} {k : Nat} {e : Em} (he : es[k]? = some e) (hq : (e.al.1.toList == s.toList) = true) (h : anyAl (es.take k) s = false) : aliasN es s = k := by
  have hk : k < es.length := (List.getElem?_eq_some_iff.1 he).1
  have e1 : es[k] = e := (List.getElem?_eq_some_iff.1 he).2
  have e2 : (es.findIdx? fun e => e.al.1.toList == s.toList) = some k := by
    refine List.findIdx?_eq_some_iff_getElem.2 ⟨hk, by rw [e1]; exact hq, fun j hj => ?_⟩
    have h1 : (es.take k)[j]? = some es[j] := by rw [List.getElem?_take_of_lt hj]; exact List.getElem?_eq_getElem (by omega)
    rw [anyAl_no h h1]; decide
  unfold aliasN; rw [e2]
theorem aliasN_none {es : List Em} {s : ByteArray} (h : anyAl es s = false) : aliasN es s = -1 := by
  have e2 : (es.findIdx? fun e => e.al.1.toList == s.toList) = none := by
    refine List.findIdx?_eq_none_iff.2 fun e he => ?_
    rw [anyAl, List.any_eq_false] at h
    cases hq : (e.al.1.toList == s.toList)
    · rfl
    · exact absurd hq (h e he)
  unfold aliasN; rw [e2]
/-- An element's own alias is first found at its own place, or there is one ahead. -/
theorem aliasN_own {es : List Em} {k : Nat} {e : Em} (he : es[k]? = some e) : (aliasN es e.al.1 != (k : Int)) = anyAl (es.take k) e.al.1 := by
  cases h : anyAl (es.take k) e.al.1
  · rw [aliasN_yes he (by simp) h]; simp
  · have hne : aliasN es e.al.1 ≠ k := fun hc => by
      unfold aliasN at hc
      cases h2 : (es.findIdx? fun x => x.al.1.toList == e.al.1.toList) with
      | none => rw [h2] at hc; simp only at hc; omega
      | some i =>
        rw [h2] at hc
        have hik : i = k := by have : (i : Int) = k := by simpa using hc
                               omega
        subst hik
        obtain ⟨hi, -, hno⟩ := List.findIdx?_eq_some_iff_getElem.1 h2
        rw [anyAl, List.any_eq_true] at h
        obtain ⟨x, hx, hq⟩ := h
        obtain ⟨j, hj, rfl⟩ := List.mem_iff_getElem.1 hx
        rw [List.length_take] at hj
        have := hno j (by omega)
        rw [List.getElem_take] at hq
        exact this hq
    simpa [bne] using hne

set_option maxRecDepth 100000 in
set_option maxHeartbeats 2000000 in
theorem refAlias_c (a : Option Addr) (cap : Nat) (s : ByteArray) (es : List Em) (w : World) (hE : Ems w.heap.size w a es) :
    Calls Tryd.prog 31 #[.slice a es.length cap, .string s] w fun r w' => r = .returned (.int .i64 (aliasN es s)) ∧ w' = w := by
  have hl' := hE.1
  go_enter Tryd.func31, Tryd.ntmps31
  go_wp2_with fail
  go_loop [5] (fun i => ∃ k : Nat, k ≤ es.length ∧ i = .int .i64 k ∧ Hid (anyAl (es.take k) s = false)) (fun i => es.length - (intOf i).toNat)
  case atStart => exact ⟨0, Nat.zero_le _, rfl, hide (by simp [anyAl])⟩
  case round =>
    obtain ⟨k, hk, rfl, hp⟩ := hrel
    by_cases hlt : k < es.length
    · obtain ⟨e, he⟩ : ∃ e, es[k]? = some e := ⟨_, List.getElem?_eq_getElem hlt⟩
      obtain ⟨b, off, p, ea, hbn, hcs, -⟩ := hE.at he
      have htk := hide (show anyAl (es.take (k + 1)) s = (e.al.1.toList == s.toList) by
        have e1 : es.take (k + 1) = es.take k ++ [e] := by rw [List.take_succ_eq_append_getElem hlt]; simp [List.getElem?_eq_getElem hlt] at he; rw [he]
        have := unhide hp
        unfold anyAl at this ⊢
        rw [e1, List.any_append, this]; simp)
      have hd0 := hcs 0 _ rfl
      rw [Nat.add_zero] at hd0
      replace he := hide he
      clear hcs
      subst ea
      have hkl : (k : Int) < es.length := by omega
      have hk0 : (0 : Int) ≤ k := by omega
      replace hE := hide hE
      cases hq : (e.al.1.toList == s.toList)
      · rw [hq] at htk
        go_wp2_with fail
        go_round
        case rel => exact ⟨k + 1, by omega, by go_num, htk⟩
        case measure => simp [intOf]; omega
      · have hyes := hide (aliasN_yes (unhide he) hq (unhide hp))
        go_wp2_with fail
        go_ret
        exact ⟨by rw [unhide hyes]; rfl, rfl⟩
    · have hke : aliasN es s = -1 := by
        have := unhide hp
        rw [List.take_of_length_le (by omega)] at this
        exact aliasN_none this
      replace hke := hide hke
      replace hE := hide hE
      go_wp2_with fail
      go_ret
      exact ⟨by rw [unhide hke]; rfl, rfl⟩

end Go.Proofs.YtfofpenajkaalaaDoor
