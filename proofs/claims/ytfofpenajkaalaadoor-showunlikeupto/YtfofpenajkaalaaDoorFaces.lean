/-
  What the faces of package show answer: the texts of values, conditions, patterns, where they may be; else the empty text.
-/
import Derived.Test.YtfofpenajkaalaaDoorShowX
namespace Go.Proofs.YtfofpenajkaalaaDoor
open Go.RowKit Go.Shelf

set_option maxRecDepth 100000 in
set_option maxHeartbeats 2000000 in
theorem faceV_c (k n : Int) (s : ByteArray) (h0 : -9223372036854775808 ≤ n) (h1 : n ≤ 9223372036854775807) (hs : s.size ≤ maxLen) (W : World) (hV : Vars W) :
    Calls Tryd.prog 8 #[.agg #[.int .i64 k, .int .i64 n, .string s]] W fun r W' => r = .returned (.string (valB k n s)) ∧ Below W.heap.size W W' := by
  obtain ⟨W0, hW0⟩ : ∃ W0, W0 = W.alloc (.cells #[.int .i64 k, .int .i64 n, .string s] 23) := ⟨_, rfl⟩
  have b0 : Below W.heap.size W W0 := by rw [hW0]; exact (Below.refl _ _).alloc (Nat.le_refl _) _
  have x0 : Box W0 W.heap.size 23 #[.int .i64 k, .int .i64 n, .string s] := by rw [hW0]; exact Box.new _ _ _
  obtain ⟨c0, c1, c2⟩ := x0.three
  have cI := hide (is36 k n s W0 hs)
  obtain ⟨q, hq⟩ : ∃ q, q = isB k n s := ⟨_, rfl⟩
  rw [← hq] at cI
  replace hq := hide hq
  go_enter Tryd.func8, Tryd.ntmps8
  go_upto_region 1 with fail
  rw [← hW0]
  clear hW0
  go_wp2_with fail
  refine (unhide cI).mono ?_
  rintro e W1 ⟨rfl, hb1⟩
  have x1 := x0.on hb1 x0.lt
  have b1 := b0.trans (hb1.mono b0.size)
  clear c0 c1 c2 cI
  obtain ⟨c0, c1, c2⟩ := x1.three
  cases q
  · have H := hide (valB_no (unhide hq).symm)
    go_wp2_with fail
    go_ret
    exact ⟨by rw [unhide H]; rfl, b1⟩
  have H := hide (valB_yes (unhide hq).symm)
  have hln := hide (lit_len k n s h0 h1 (unhide hq).symm)
  have cL := hide (literal_c W1.heap.size k n s h0 h1 (fun e => Nat.le_trans (isB_size (unhide hq).symm e) (by decide)) W1 (Nat.le_refl _) (hV.on b1))
  go_wp2_with fail
  refine (unhide cL).mono ?_
  rintro e W2 ⟨u, rfl, hp, hb2⟩
  have cW := hide (whole_c W1.heap.size u (litP k n s) W2 hp (Nat.le_trans (unhide hln) (by decide)))
  have b2 := b1.trans (hb2.mono b1.size)
  clear cL hp
  go_wp2_with fail
  refine (unhide cW).mono ?_
  rintro e W3 ⟨rfl, hb3⟩
  go_wp2_with fail
  go_ret
  exact ⟨by rw [unhide H]; rfl, b2.trans (hb3.mono b2.size)⟩

set_option maxRecDepth 100000 in
set_option maxHeartbeats 2000000 in
theorem faceE_c (d : Dat) (cap : Nat) (a : Option Addr) (ks : List Tree) (hb : Bnd (.mk d ks)) (W : World) (hL : Lies W.heap.size W a ks) (hV : Vars W) :
    Calls Tryd.prog 10 #[d.v a ks.length cap] W fun r W' => r = .returned (.string (exprB (.mk d ks))) ∧ Below W.heap.size W W' := by
  obtain ⟨W0, hW0⟩ : ∃ W0, W0 = W.alloc (.cells (d.cs a ks.length cap) 26) := ⟨_, rfl⟩
  have b0 : Below W.heap.size W W0 := by rw [hW0]; exact (Below.refl _ _).alloc (Nat.le_refl _) _
  have x0 : Box W0 W.heap.size 26 (d.cs a ks.length cap) := by rw [hW0]; exact Box.new _ _ _
  obtain ⟨h0, h1, h2, h3, h4, h5, h6⟩ := x0.seven
  have cS := hide (isT_c d a ks cap W0 (hL.on b0))
  obtain ⟨q, hq⟩ : ∃ q, q = isT (.mk d ks) := ⟨_, rfl⟩
  rw [← hq] at cS
  replace hq := hide hq
  go_enter Tryd.func10, Tryd.ntmps10
  go_upto_region 1 with fail
  rw [show Obj.cells #[Value.int .i64 d.op, .int .i64 d.k, .int .i64 d.n, .string d.s.1, .string d.al.1, .string d.fd.1, .slice a ks.length cap] 26 = Obj.cells (d.cs a ks.length cap) 26 from rfl, ← hW0]
  clear hW0
  go_wp2_with fail
  refine (unhide cS).mono ?_
  rintro e W1 ⟨rfl, hb1⟩
  have b1 := b0.trans (hb1.mono b0.size)
  have x1 := x0.on hb1 x0.lt
  clear cS h0 h1 h2 h3 h4 h5 h6
  obtain ⟨h0, h1, h2, h3, h4, h5, h6⟩ := x1.seven
  cases q
  · have H := hide (exprB_no (unhide hq).symm)
    go_wp2_with fail
    go_ret
    exact ⟨by rw [unhide H]; rfl, b1⟩
  have H := hide (exprB_yes (unhide hq).symm)
  have hln := hide (isT_len hb (unhide hq).symm)
  have cL := hide (condition_c W1.heap.size (.mk d ks) (isT_snd hb (unhide hq).symm) a cap W1 (Nat.le_refl _) (hL.on b1) (hV.on b1))
  go_wp2_with fail
  refine (unhide cL).mono ?_
  rintro e W2 ⟨u, rfl, hp, hb2⟩
  have cW := hide (whole_c W1.heap.size u (condP (.mk d ks)) W2 hp (Nat.le_trans (unhide hln) (by decide)))
  have b2 := b1.trans (hb2.mono b1.size)
  clear cL hp
  go_wp2_with fail
  refine (unhide cW).mono ?_
  rintro e W3 ⟨rfl, hb3⟩
  go_wp2_with fail
  go_ret
  exact ⟨by rw [unhide H]; rfl, b2.trans (hb3.mono b2.size)⟩

theorem flat_len (pss : List (List ByteArray)) : (flatB pss.flatten).length = (pss.map fun ps => (flatB ps).length).sum := by
  induction pss with
  | nil => rfl
  | cons p pss ih => rw [List.flatten_cons, flatB_append, List.length_append, ih]; simp
theorem noneNo {ts : List Txt} (h : anyNo ts = false) : ∀ t ∈ ts, nameB t.1 = true := fun t ht => by
  unfold anyNo at h
  rw [List.any_eq_false] at h
  have := h t ht
  simpa using this
theorem same_zero {t : Tree} (h : sameT t (.mk d0 []) = true) : t.dat.op = 0 := by
  obtain ⟨d, ks⟩ := t
  rw [sameT, sameD] at h
  simp only [Bool.and_eq_true, decide_eq_true_eq] at h
  exact h.1.1.1.1
theorem elem_good {e : Em} (hb : Bnd e.t) (h : elemB e = true) : EGood e ∧ e.al.1.size ≤ 8 ∧ (flatB (askP e.t)).length ≤ 12152 := by
  unfold elemB typesB at h
  simp only [Bool.and_eq_true, decide_eq_true_eq, Bool.not_eq_true', Bool.or_eq_true] at h
  obtain ⟨⟨⟨hn, ⟨⟨h1, h3⟩, hr⟩, hno⟩, hpn⟩, ht⟩ := h
  have key : e.t.dat.op = 0 ∨ isT e.t = true := ht.imp same_zero id
  refine ⟨⟨key.imp id (isT_snd hb), ⟨h1, h3⟩, fun t ht => name_size (noneNo hno t ht)⟩, name_size hn, ?_⟩
  unfold askP
  by_cases h0 : e.t.dat.op = 0
  · rw [if_pos h0]; exact Nat.zero_le _
  · rw [if_neg h0, flat_len]
    have := isT_len hb (key.resolve_left h0)
    have e1 : (flatB [obB]).length = 1 := rfl
    have e2 : (flatB [cbB]).length = 1 := rfl
    simp only [List.map_cons, List.map_nil, List.sum_cons, List.sum_nil, e1, e2]
    omega
theorem elem_len {e : Em} (hb : Bnd e.t) (h : elemB e = true) : (flatB (elemP e)).length ≤ 12300 := by
  obtain ⟨hG, ha, hk⟩ := elem_good hb h
  unfold elemP
  rw [flat_len]
  have hj := join_len e.ts hG.2.1.2 hG.2.2
  have e1 : (flatB (if e.nt then [exB] else [])).length ≤ 1 := by split <;> decide
  have e2 : (flatB (if e.pl then [plB] else [])).length ≤ 1 := by split <;> decide
  have e3 : (flatB [e.al.1, coB, joinB e.ts]).length = e.al.1.size + (1 + (joinB e.ts).size) := by simp [flatB]; omega
  have hj' : (joinB e.ts).size ≤ 100 := by
    show ((Lib.join (e.ts.map fun t => t.1.data.toList) barB.data.toList).toArray).size ≤ 100
    rw [List.size_toArray]; exact hj
  simp only [List.map_cons, List.map_nil, List.sum_cons, List.sum_nil, e3]
  omega
theorem rowS_bound (B : Nat) : ∀ (l : List Em) (k : Nat), (∀ e ∈ l, (flatB (elemP e)).length ≤ B) → (flatB ((l.zipIdx k).flatMap fun x => [if decide ((0 : Int) < x.2) then [csB] else [], elemP x.1]).flatten).length ≤ l.length * (B + 2) := by
  intro l
  induction l with
  | nil => intro k _; simp [flatB]
  | cons e l ih =>
    intro k h
    have h1 := ih (k + 1) fun x hx => h x (by simp [hx])
    have h2 := h e (by simp)
    have h3 : (flatB (if decide ((0 : Int) < (k : Int)) then [csB] else [])).length ≤ 2 := by split <;> decide
    rw [List.zipIdx_cons, List.flatMap_cons, List.flatten_append, flatB_append, List.length_append, flat_len, List.length_cons, Nat.add_mul]
    simp only [List.map_cons, List.map_nil, List.sum_cons, List.sum_nil]
    omega
theorem patB_parts {q : Pt} (h : patB q = true) : q.es.length ≤ 5 ∧ 0 ≤ q.wi ∧ q.wi ≤ 1000 ∧ (∀ e ∈ q.es, elemB e = true) ∧ q.nm.1.size ≤ 8 := by
  unfold patB rowB at h
  simp only [Bool.and_eq_true, decide_eq_true_eq, Bool.or_eq_true] at h
  obtain ⟨⟨⟨⟨⟨h5, -⟩, hr⟩, hw0⟩, hw1⟩, hn⟩ := h
  refine ⟨h5, hw0, hw1, fun e he => ?_, ?_⟩
  · obtain ⟨j, hj, rfl⟩ := List.mem_iff_getElem.1 he
    unfold rowTo at hr
    have := List.all_eq_true.1 hr j (List.mem_range.2 hj)
    rw [rowAt, List.getElem?_eq_getElem hj] at this
    simp only [Bool.and_eq_true] at this
    exact this.1
  · rcases hn with hn | hn
    · have : q.nm.1.data.toList.length = 0 := by
        rw [← ByteArray.toList_eq, List.isEmpty_iff.1 hn]; rfl
      have e : q.nm.1.size = q.nm.1.data.toList.length := (Array.length_toList ..).symm
      omega
    · exact name_size hn
theorem pat_good {q : Pt} (hb : ∀ e ∈ q.es, Bnd e.t) (h : patB q = true) : PGood q ∧ (flatB (patP q)).length ≤ 100000 := by
  obtain ⟨h5, hw0, hw1, he, hn⟩ := patB_parts h
  refine ⟨⟨fun e hm => (elem_good (hb e hm) (he e hm)).1, h5, hw0, hw1⟩, ?_⟩
  unfold patP
  rw [flat_len]
  have hrow := rowS_bound 12300 q.es 0 fun e hm => elem_len (hb e hm) (he e hm)
  have hm : q.es.length * (12300 + 2) ≤ 5 * (12300 + 2) := Nat.mul_le_mul_right _ h5
  have hd := decB_size q.wi (by omega) (by omega)
  rw [decB_itoa] at hd
  have e1 : (flatB [seqB]).length = 4 := rfl
  have e2 : (flatB [wiB, itoaB q.wi]).length = 9 + (itoaB q.wi).size := by simp [flatB]; omega
  have e3 : (flatB (if !(q.nm.1.toList == []) then [byB, q.nm.1] else [])).length ≤ 12 := by
    split
    · have : (flatB [byB, q.nm.1]).length = 4 + q.nm.1.size := by simp [flatB]; omega
      omega
    · exact Nat.zero_le _
  have e4 : (flatB (if q.any then [anyB] else [])).length ≤ 4 := by split <;> decide
  simp only [List.map_cons, List.map_nil, List.sum_cons, List.sum_nil, e1, e2]
  have e5 : (flatB (rowS q.es).flatten).length ≤ q.es.length * (12300 + 2) := hrow
  omega

/-- The text of a pattern, as the document tells it. -/
def pattB (q : Pt) : ByteArray := if patB q then txtB (patP q) else ⟨#[]⟩
theorem pattB_yes {q : Pt} (h : patB q = true) : pattB q = txtB (patP q) := by unfold pattB; rw [if_pos h]
theorem pattB_no {q : Pt} (h : patB q = false) : pattB q = ⟨#[]⟩ := by unfold pattB; rw [h]; rfl

set_option maxRecDepth 100000 in
set_option maxHeartbeats 2000000 in
theorem faceP_c (q : Pt) (a : Option Addr) (cap : Nat) (hcap : q.es.length ≤ cap) (hb : ∀ e ∈ q.es, Bnd e.t) (W : World) (hE : Ems W.heap.size W a q.es) (hK : EmsK W.heap.size W a q.es) (hV : Vars W) :
    Calls Tryd.prog 12 #[q.v a cap] W fun r W' => r = .returned (.string (pattB q)) ∧ Below W.heap.size W W' := by
  obtain ⟨W0, hW0⟩ : ∃ W0, W0 = W.alloc (.cells (q.cs a cap) 29) := ⟨_, rfl⟩
  have b0 : Below W.heap.size W W0 := by rw [hW0]; exact (Below.refl _ _).alloc (Nat.le_refl _) _
  have x0 : Box W0 W.heap.size 29 (q.cs a cap) := by rw [hW0]; exact Box.new _ _ _
  obtain ⟨h0, h1, h2, h3⟩ := x0.four
  have cS := hide (pattern_c q a cap hcap W0 (hE.on b0))
  obtain ⟨g, hg⟩ : ∃ g, g = patB q := ⟨_, rfl⟩
  rw [← hg] at cS
  replace hg := hide hg
  go_enter Tryd.func12, Tryd.ntmps12
  go_upto_region 1 with fail
  rw [show Obj.cells #[Value.slice a q.es.length cap, .int .i64 q.wi, .string q.nm.1, .bool q.any] 29 = Obj.cells (q.cs a cap) 29 from rfl, ← hW0]
  clear hW0
  go_wp2_with fail
  refine (unhide cS).mono ?_
  rintro e W1 ⟨rfl, hb1⟩
  have b1 := b0.trans (hb1.mono b0.size)
  have x1 := x0.on hb1 x0.lt
  clear cS h0 h1 h2 h3
  obtain ⟨h0, h1, h2, h3⟩ := x1.four
  cases g
  · have H := hide (pattB_no (unhide hg).symm)
    go_wp2_with fail
    go_ret
    exact ⟨by rw [unhide H]; rfl, b1⟩
  have H := hide (pattB_yes (unhide hg).symm)
  have hgood := hide (pat_good hb (unhide hg).symm)
  have cL := hide (patt_c W1.heap.size q a cap (unhide hgood).1 W1 (Nat.le_refl _) (hK.on b1) (hV.on b1))
  go_wp2_with fail
  refine (unhide cL).mono ?_
  rintro e W2 ⟨u, rfl, hp, hb2⟩
  have cW := hide (whole_c W1.heap.size u (patP q) W2 hp (Nat.le_trans (unhide hgood).2 (by decide)))
  have b2 := b1.trans (hb2.mono b1.size)
  clear cL hp
  go_wp2_with fail
  refine (unhide cW).mono ?_
  rintro e W3 ⟨rfl, hb3⟩
  go_wp2_with fail
  go_ret
  exact ⟨by rw [unhide H]; rfl, b2.trans (hb3.mono b2.size)⟩

end Go.Proofs.YtfofpenajkaalaaDoor
