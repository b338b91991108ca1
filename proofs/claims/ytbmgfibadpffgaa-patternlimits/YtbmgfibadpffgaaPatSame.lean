/-
  What sameElem and SamePattern answer: for all elements, all patterns that lie, in whatever world; nothing that lay is turned.
-/
import Derived.Test.YtbmgfibadpffgaaPat
namespace Go.Proofs.Ytbmgfibadpffgaa
open Go.RowKit Go.Shelf

/-- Two elements are the same: all parts. -/
def sameEm (x y : Em) : Bool := (x.al.1.toList == y.al.1.toList) && (x.pl == y.pl) && (x.nt == y.nt) && (decide (x.ts.length = y.ts.length) && sameTxs x.ts y.ts) && sameT x.t y.t
def sameEs (xs ys : List Em) : Bool := (xs.zip ys).all fun p => sameEm p.1 p.2
theorem sameEs_snoc (ts us : List Em) (x y : Em) (h : ts.length = us.length) : sameEs (ts ++ [x]) (us ++ [y]) = (sameEs ts us && sameEm x y) := by
  simp [sameEs, List.zip_append h]
theorem sameEs_no (ts us : List Em) (k : Nat) (h : sameEs (ts.take k) (us.take k) = false) : sameEs ts us = false := by
  unfold sameEs at *
  rw [List.zip_eq_zipWith, ← List.take_zipWith, ← List.zip_eq_zipWith, List.all_eq_false] at h
  rw [List.all_eq_false]
  obtain ⟨x, hx, hn⟩ := h
  exact ⟨x, List.mem_of_mem_take hx, hn⟩

set_option maxRecDepth 100000 in
set_option maxHeartbeats 4000000 in
theorem sameElem_c (x y : Em) (p q : Pl) (w : World) (hx : EmIn w.heap.size w x p) (hy : EmIn w.heap.size w y q) :
    Calls Try.prog 26 #[x.v p, y.v q] w fun r w' => r = .returned (.bool (sameEm x y)) ∧ Below w.heap.size w w' := by
  obtain ⟨W, hW⟩ : ∃ W, W = (w.alloc (.cells (x.cs p) 41)).alloc (.cells (y.cs q) 41) := ⟨_, rfl⟩
  have bk : Below w.heap.size w W := by rw [hW]; exact ((Below.refl _ _).alloc (Nat.le_refl _) _).alloc (by simp) _
  have xk : Box W w.heap.size 41 (x.cs p) := by rw [hW]; exact (Box.new _ _ _).alloc _
  have yk : Box W (w.heap.size + 1) 41 (y.cs q) := by
    have := Box.new (w.alloc (.cells (x.cs p) 41)) 41 (y.cs q)
    simp only [World.size_alloc] at this
    rw [hW]; exact this
  have cE := hide (equalT_c p.ta q.ta p.tc q.tc x.ts y.ts W (hx.on bk).1 (hy.on bk).1)
  obtain ⟨q0, q1, q2, q3, q4, q5, q6, q7, q8, q9, q10⟩ := xk.eleven
  obtain ⟨p0, p1, p2, p3, p4, p5, p6, p7, p8, p9, p10⟩ := yk.eleven
  have H := hide (show sameEm x y = ((x.al.1.toList == y.al.1.toList) && (x.pl == y.pl) && (x.nt == y.nt) && (decide (x.ts.length = y.ts.length) && sameTxs x.ts y.ts) && sameT (.mk x.t.dat x.t.kids) (.mk y.t.dat y.t.kids)) by cases x; cases y; rename_i t _ _ _ _ t'; cases t; cases t'; rfl)
  have hx' := hide (hx.on bk)
  have hy' := hide (hy.on bk)
  replace hx := hide hx
  replace hy := hide hy
  go_enter Try.func26, Try.ntmps26
  go_upto_region 1 with fail
  rw [← hW]
  clear hW
  cases c1 : x.al.1.toList == y.al.1.toList
  · rw [c1] at H
    go_wp2_with fail
    all_goals go_ret
    all_goals exact ⟨by rw [unhide H]; rfl, bk⟩
  rw [c1] at H
  cases c2 : x.pl == y.pl
  · rw [c2] at H
    go_wp2_with fail
    all_goals go_ret
    all_goals exact ⟨by rw [unhide H]; rfl, bk⟩
  rw [c2] at H
  cases c3 : x.nt == y.nt
  · rw [c3] at H
    go_wp2_with fail
    all_goals go_ret
    all_goals exact ⟨by rw [unhide H]; rfl, bk⟩
  rw [c3] at H
  go_wp2_with fail
  refine (unhide cE).mono ?_
  rintro r w2 ⟨rfl, hb2⟩
  clear cE
  have xk2 := xk.on hb2 xk.lt
  have yk2 := yk.on hb2 yk.lt
  clear q0 q1 q2 q3 q4 q5 q6 q7 q8 q9 q10 p0 p1 p2 p3 p4 p5 p6 p7 p8 p9 p10
  obtain ⟨q0, q1, q2, q3, q4, q5, q6, q7, q8, q9, q10⟩ := xk2.eleven
  obtain ⟨p0, p1, p2, p3, p4, p5, p6, p7, p8, p9, p10⟩ := yk2.eleven
  have bk2 := bk.trans (hb2.mono bk.size)
  cases c4 : (decide (x.ts.length = y.ts.length) && sameTxs x.ts y.ts)
  · rw [c4] at H
    go_wp2_with fail
    go_ret
    exact ⟨by rw [unhide H]; rfl, bk2⟩
  rw [c4] at H
  have cS := hide (same_c x.t.dat y.t.dat p.kc q.kc p.ka q.ka x.t.kids y.t.kids w2 ((unhide hx').on hb2).2 ((unhide hy').on hb2).2)
  go_wp2_with fail
  refine (unhide cS).mono ?_
  rintro r w3 ⟨rfl, hb3⟩
  go_wp2_with fail
  go_ret
  exact ⟨by rw [unhide H]; simp, bk2.trans (hb3.mono bk2.size)⟩

set_option maxRecDepth 100000 in
set_option maxHeartbeats 4000000 in
theorem eqFE_c (a a' : Option Addr) (ks ls : List Em) (cap cap' : Nat) (w : World) (hL : Ems w.heap.size w a ks) (hL' : Ems w.heap.size w a' ls) :
    Calls Try.prog 25 #[.slice a ks.length cap, .slice a' ls.length cap', .func (.func 26) #[] #[]] w fun r W' => r = .returned (.bool (decide (ks.length = ls.length) && sameEs ks ls)) ∧ Below w.heap.size w W' := by
  have h1 := hL.1
  have h2 := hL'.1
  by_cases hne : ks.length = ls.length
  case neg =>
    have H := hide (show (decide (ks.length = ls.length) && sameEs ks ls) = false by simp [hne])
    have e1 : ((ks.length : Int) != (ls.length : Int)) = true := by simp; omega
    clear hne
    go_enter Try.func25, Try.ntmps25
    go_wp2_with fail
    go_ret
    exact ⟨by rw [unhide H]; rfl, Below.refl _ _⟩
  have H := hide (show (decide (ks.length = ls.length) && sameEs ks ls) = sameEs ks ls by simp [hne])
  have e1 : ((ks.length : Int) != (ls.length : Int)) = false := by simp; omega
  replace hL := hide hL
  replace hL' := hide hL'
  replace hne := hide hne
  go_enter Try.func25, Try.ntmps25
  go_wp2_with fail
  go_loopw [17] (fun i wr => ∃ k : Nat, k ≤ ks.length ∧ i = .int .i64 k ∧ Hid (sameEs (ks.take k) (ls.take k) = true) ∧ Below w.heap.size w wr) (fun i _ => ks.length - (intOf i).toNat)
  case atStart => exact ⟨0, Nat.zero_le _, rfl, hide (by simp [sameEs]), Below.refl _ _⟩
  case round =>
    obtain ⟨k, hk, rfl, hsm, hb⟩ := hrel
    by_cases hlt : k < ks.length
    · obtain ⟨t, ht⟩ : ∃ t, ks[k]? = some t := ⟨_, List.getElem?_eq_getElem hlt⟩
      obtain ⟨u, hu⟩ : ∃ u, ls[k]? = some u := ⟨_, List.getElem?_eq_getElem (by have := unhide hne; omega)⟩
      have htk := hide (show sameEs (ks.take (k + 1)) (ls.take (k + 1)) = sameEm t u by
        have e1 : ks.take (k + 1) = ks.take k ++ [t] := by rw [List.take_succ_eq_append_getElem hlt]; simp [List.getElem?_eq_getElem hlt] at ht; rw [ht]
        have e2 : ls.take (k + 1) = ls.take k ++ [u] := by rw [List.take_succ_eq_append_getElem (by have := unhide hne; omega)]; simp [List.getElem?_eq_getElem (show k < ls.length by have := unhide hne; omega)] at hu; rw [hu]
        rw [e1, e2, sameEs_snoc _ _ _ _ (by have := unhide hne; simp; omega), unhide hsm, Bool.true_and])
      have hLr := (unhide hL).on hb
      have hLr' := (unhide hL').on hb
      obtain ⟨b, off, p, ea, hbn, hcs', hI1⟩ := hLr.at ht
      obtain ⟨b', off', q, ea', hbn', hcs2, hI2⟩ := hLr'.at hu
      clear hLr hLr' ht hu
      have hd0 := hcs' 0 _ rfl
      have hd1 := hcs' 1 _ rfl
      have hd2 := hcs' 2 _ rfl
      have hd3 := hcs' 3 _ rfl
      have hd4 := hcs' 4 _ rfl
      have hd5 := hcs' 5 _ rfl
      have hd6 := hcs' 6 _ rfl
      have hd7 := hcs' 7 _ rfl
      have hd8 := hcs' 8 _ rfl
      have hd9 := hcs' 9 _ rfl
      have hd10 := hcs' 10 _ rfl
      have hg0 := hcs2 0 _ rfl
      have hg1 := hcs2 1 _ rfl
      have hg2 := hcs2 2 _ rfl
      have hg3 := hcs2 3 _ rfl
      have hg4 := hcs2 4 _ rfl
      have hg5 := hcs2 5 _ rfl
      have hg6 := hcs2 6 _ rfl
      have hg7 := hcs2 7 _ rfl
      have hg8 := hcs2 8 _ rfl
      have hg9 := hcs2 9 _ rfl
      have hg10 := hcs2 10 _ rfl
      rw [Nat.add_zero] at hd0 hg0
      clear hcs' hcs2
      subst ea ea'
      obtain ⟨Wk, hWk⟩ : ∃ Wk, Wk = (wr.alloc (.cells (t.cs p) 41)).alloc (.cells (u.cs q) 41) := ⟨_, rfl⟩
      have bk : Below wr.heap.size wr Wk := by rw [hWk]; exact ((Below.refl _ _).alloc (Nat.le_refl _) _).alloc (by simp) _
      have xk : Box Wk wr.heap.size 41 (t.cs p) := by rw [hWk]; exact (Box.new _ _ _).alloc _
      have yk : Box Wk (wr.heap.size + 1) 41 (u.cs q) := by
        have := Box.new (wr.alloc (.cells (t.cs p) 41)) 41 (u.cs q)
        simp only [World.size_alloc] at this
        rw [hWk]; exact this
      have cV := hide (sameElem_c t u p q Wk (hI1.on bk) (hI2.on bk))
      replace hI1 := hide hI1
      replace hI2 := hide hI2
      have hkl : (k : Int) < ks.length := by omega
      have hkl' : (k : Int) < ls.length := by have := unhide hne; omega
      obtain ⟨q0, q1, q2, q3, q4, q5, q6, q7, q8, q9, q10⟩ := xk.eleven
      obtain ⟨p0, p1, p2, p3, p4, p5, p6, p7, p8, p9, p10⟩ := yk.eleven
      have hb1 : b' < wr.heap.size := by omega
      have gc : ∀ i v, wr.cell? ⟨b', i, none⟩ = some v → (wr.alloc (.cells (t.cs p) 41)).cell? ⟨b', i, none⟩ = some v := fun i v h => (((Below.refl _ _).alloc (Nat.le_refl _) _).cell (p := ⟨b', i, none⟩) hb1).trans h
      replace hg0 := gc _ _ hg0
      replace hg1 := gc _ _ hg1
      replace hg2 := gc _ _ hg2
      replace hg3 := gc _ _ hg3
      replace hg4 := gc _ _ hg4
      replace hg5 := gc _ _ hg5
      replace hg6 := gc _ _ hg6
      replace hg7 := gc _ _ hg7
      replace hg8 := gc _ _ hg8
      replace hg9 := gc _ _ hg9
      replace hg10 := gc _ _ hg10
      clear gc
      obtain ⟨Wj, hWj⟩ : ∃ Wj, Wj = wr.alloc (.cells (t.cs p) 41) := ⟨_, rfl⟩
      have ej : Wj.heap.size = wr.heap.size + 1 := by rw [hWj]; simp
      rw [← hWj] at hg0 hg1 hg2 hg3 hg4 hg5 hg6 hg7 hg8 hg9 hg10 hWk
      replace hWk := hide hWk
      go_upto_region 6 with fail
      rw [← hWj]
      clear hWj hd0 hd1 hd2 hd3 hd4 hd5 hd6 hd7 hd8 hd9 hd10
      replace hWk := unhide hWk
      go_upto_region 7 with fail
      rw [← hWk]
      clear hWk hg0 hg1 hg2 hg3 hg4 hg5 hg6 hg7 hg8 hg9 hg10
      clear ej
      go_wp2_with fail
      refine (unhide cV).mono ?_
      rintro e W5 ⟨rfl, hb5⟩
      clear cV q0 q1 q2 q3 q4 q5 q6 q7 q8 q9 q10 p0 p1 p2 p3 p4 p5 p6 p7 p8 p9 p10
      have bE := hb.trans ((bk.trans (hb5.mono bk.size)).mono hb.size)
      cases hst : sameEm t u
      · have hno := hide (show sameEs ks ls = false from sameEs_no ks ls (k + 1) (by rw [unhide htk, hst]))
        clear htk
        go_wp2_with fail
        go_ret
        exact ⟨by rw [unhide H, unhide hno]; rfl, bE⟩
      · rw [hst] at htk
        go_wp2_with fail
        go_roundw
        case rel => exact ⟨k + 1, by omega, by go_num, htk, bE⟩
        case measure => simp [intOf]; omega
    · have hke : sameEs ks ls = true := by
        have := unhide hsm
        rwa [List.take_of_length_le (by omega), List.take_of_length_le (by have := unhide hne; omega)] at this
      replace hke := hide hke
      go_wp2_with fail
      go_ret
      exact ⟨by rw [unhide H, unhide hke]; rfl, hb⟩

/-- Two patterns are the same: all parts. -/
def samePt (x y : Pt) : Bool := decide (x.wi = y.wi) && (x.nm.1.toList == y.nm.1.toList) && (x.any == y.any) && (decide (x.es.length = y.es.length) && sameEs x.es y.es)

set_option maxRecDepth 100000 in
set_option maxHeartbeats 4000000 in
theorem samePat_c (x y : Pt) (a a' : Option Addr) (cap cap' : Nat) (w : World) (hx : Ems w.heap.size w a x.es) (hy : Ems w.heap.size w a' y.es) :
    Calls Try.prog 17 #[x.v a cap, y.v a' cap'] w fun r w' => r = .returned (.bool (samePt x y)) ∧ Below w.heap.size w w' := by
  obtain ⟨W, hW⟩ : ∃ W, W = (w.alloc (.cells (x.cs a cap) 37)).alloc (.cells (y.cs a' cap') 37) := ⟨_, rfl⟩
  have bk : Below w.heap.size w W := by rw [hW]; exact ((Below.refl _ _).alloc (Nat.le_refl _) _).alloc (by simp) _
  have xk : Box W w.heap.size 37 (x.cs a cap) := by rw [hW]; exact (Box.new _ _ _).alloc _
  have yk : Box W (w.heap.size + 1) 37 (y.cs a' cap') := by
    have := Box.new (w.alloc (.cells (x.cs a cap) 37)) 37 (y.cs a' cap')
    simp only [World.size_alloc] at this
    rw [hW]; exact this
  have cE := hide (eqFE_c a a' x.es y.es cap cap' W (hx.on bk) (hy.on bk))
  obtain ⟨q0, q1, q2, q3⟩ := xk.four
  obtain ⟨p0, p1, p2, p3⟩ := yk.four
  have H := hide (show samePt x y = (decide (x.wi = y.wi) && (x.nm.1.toList == y.nm.1.toList) && (x.any == y.any) && (decide (x.es.length = y.es.length) && sameEs x.es y.es)) from rfl)
  replace hx := hide hx
  replace hy := hide hy
  go_enter Try.func17, Try.ntmps17
  go_upto_region 1 with fail
  rw [← hW]
  clear hW
  by_cases c0 : x.wi = y.wi
  case neg =>
    have e1 : (x.wi == y.wi) = false := by simp [c0]
    rw [decide_eq_false c0] at H
    clear c0
    go_wp2_with fail
    go_ret
    exact ⟨by rw [unhide H]; rfl, bk⟩
  have e1 : (x.wi == y.wi) = true := by simp [c0]
  rw [decide_eq_true c0] at H
  clear c0
  cases c1 : x.nm.1.toList == y.nm.1.toList
  · rw [c1] at H
    go_wp2_with fail
    all_goals go_ret
    all_goals exact ⟨by rw [unhide H]; rfl, bk⟩
  rw [c1] at H
  cases c2 : x.any == y.any
  · rw [c2] at H
    go_wp2_with fail
    all_goals go_ret
    all_goals exact ⟨by rw [unhide H]; rfl, bk⟩
  rw [c2] at H
  go_wp2_with fail
  refine (unhide cE).mono ?_
  rintro r w2 ⟨rfl, hb2⟩
  go_wp2_with fail
  go_ret
  exact ⟨by rw [unhide H]; simp, bk.trans (hb2.mono bk.size)⟩

end Go.Proofs.Ytbmgfibadpffgaa
