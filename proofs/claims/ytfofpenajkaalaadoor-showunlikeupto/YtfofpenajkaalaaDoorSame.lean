/-
  What value's Same and expr's Same answer: for all values, all trees that lie, in whatever world; nothing that lay is turned.
-/
import Derived.Test.YtfofpenajkaalaaDoorIsT
namespace Go.Proofs.YtfofpenajkaalaaDoor
open Go.RowKit Go.Shelf

def sameD (x y : Dat) : Bool := decide (x.op = y.op) && decide (x.k = y.k ∧ x.n = y.n ∧ x.s.1.toList = y.s.1.toList) && (x.al.1.toList == y.al.1.toList) && (x.fd.1.toList == y.fd.1.toList)
mutual
/-- Two conditions are the same: all parts. -/
def sameT : Tree → Tree → Bool
  | .mk x ks, .mk y ls => sameD x y && (decide (ks.length = ls.length) && sameL ks ls)
def sameL : List Tree → List Tree → Bool
  | t :: ts, u :: us => sameT t u && sameL ts us
  | [], _ => true
  | _ :: _, [] => true
end
theorem sameL_snoc (ts us : List Tree) (t u : Tree) (h : ts.length = us.length) : sameL (ts ++ [t]) (us ++ [u]) = (sameL ts us && sameT t u) := by
  induction ts generalizing us with
  | nil => cases us with
    | nil => simp [sameL]
    | cons => simp at h
  | cons x ts ih => cases us with
    | nil => simp at h
    | cons y us => simp only [List.cons_append, sameL]; rw [ih us (by simpa using h)]; simp [Bool.and_assoc]
theorem sameL_no (ts us : List Tree) (k : Nat) (h : sameL (ts.take k) (us.take k) = false) : sameL ts us = false := by
  induction k generalizing ts us with
  | zero => simp [sameL] at h
  | succ k ih => cases ts with
    | nil => simp [sameL] at h
    | cons x ts => cases us with
      | nil => simp [sameL] at h
      | cons y us =>
        simp only [List.take_succ_cons, sameL, Bool.and_eq_false_iff] at h ⊢
        exact h.imp id (ih _ _)

set_option maxHeartbeats 400000 in
theorem sameV_c (k n k' n' : Int) (s s' : ByteArray) (w : World) : Calls Tryd.prog 92 #[.agg #[.int .i64 k, .int .i64 n, .string s], .agg #[.int .i64 k', .int .i64 n', .string s']] w fun e w' => e = .returned (.bool (decide (k = k' ∧ n = n' ∧ s.toList = s'.toList))) ∧ Below w.heap.size w w' := by
  go_enter Tryd.func92, Tryd.ntmps92
  go_wp2
  all_goals go_ret
  all_goals refine ⟨?_, ((Below.refl _ _).alloc (Nat.le_refl _) _).alloc (by simp) _⟩
  all_goals simp_all

/-- What Same does with a node whose kids lie at a. -/
def SameC (n₀ : Nat) (W0 : World) (a : Option Addr) (ks : List Tree) : Prop :=
  ∀ (d e : Dat) (cap cap' : Nat) (a' : Option Addr) (ls : List Tree) (W : World), Lies n₀ W0 a' ls → Sm n₀ W0 W → n₀ ≤ W.heap.size →
    Calls Tryd.prog 79 #[d.v a ks.length cap, e.v a' ls.length cap'] W fun r W' => r = .returned (.bool (sameT (.mk d ks) (.mk e ls))) ∧ Below W.heap.size W W'

theorem Lies.cells {n₀ : Nat} {W0 : World} {a : Option Addr} {ks : List Tree} (h : Lies n₀ W0 a ks) {k : Nat} {t : Tree} (ht : ks[k]? = some t) :
    ∃ b off a1 c1, a = some ⟨b, off, none⟩ ∧ b < n₀ ∧ Lies n₀ W0 a1 t.kids ∧ ∀ i u, (t.dat.cs a1 t.kids.length c1)[i]? = some u → W0.cell? ⟨b, off + k * 7 + i, none⟩ = some u := by
  cases h with
  | nil a => simp at ht
  | row b off ks f hl hb hc hk => exact ⟨b, off, _, _, rfl, hb, hk k t ht, hc k t ht⟩

set_option maxRecDepth 100000 in
set_option maxHeartbeats 2000000 in
theorem eqF_c (n₀ : Nat) (W0 : World) (a a' : Option Addr) (ks ls : List Tree) (cap cap' : Nat) (hL : Lies n₀ W0 a ks) (hL' : Lies n₀ W0 a' ls)
    (hK : ks = [] ∨ ∃ (b off : Nat) (f : Nat → Option Addr × Nat), a = some ⟨b, off, none⟩ ∧ b < n₀ ∧ (∀ j t, ks[j]? = some t → ∀ i u, (t.dat.cs (f j).1 t.kids.length (f j).2)[i]? = some u → W0.cell? ⟨b, off + j * 7 + i, none⟩ = some u) ∧ ∀ (j : Nat) t, ks[j]? = some t → SameC n₀ W0 (f j).1 t.kids)
    (w : World) (hs : Sm n₀ W0 w) (hn : n₀ ≤ w.heap.size) :
    Calls Tryd.prog 93 #[.slice a ks.length cap, .slice a' ls.length cap', .func (.func 79) #[] #[]] w fun r W' => r = .returned (.bool (decide (ks.length = ls.length) && sameL ks ls)) ∧ Below w.heap.size w W' := by
  have h1 := hL.len
  have h2 := hL'.len
  by_cases hne : ks.length = ls.length
  case neg =>
    have H := hide (show (decide (ks.length = ls.length) && sameL ks ls) = false by simp [hne])
    have e1 : ((ks.length : Int) != (ls.length : Int)) = true := by simp; omega
    clear hne
    go_enter Tryd.func93, Tryd.ntmps93
    go_wp2_with fail
    go_ret
    exact ⟨by rw [unhide H]; rfl, Below.refl _ _⟩
  have H := hide (show (decide (ks.length = ls.length) && sameL ks ls) = sameL ks ls by simp [hne])
  have e1 : ((ks.length : Int) != (ls.length : Int)) = false := by simp; omega
  replace hK := hide hK
  replace hne := hide hne
  go_enter Tryd.func93, Tryd.ntmps93
  go_wp2_with fail
  go_loopw [17] (fun i wr => ∃ k : Nat, k ≤ ks.length ∧ i = .int .i64 k ∧ Hid (sameL (ks.take k) (ls.take k) = true) ∧ Below w.heap.size w wr) (fun i _ => ks.length - (intOf i).toNat)
  case atStart => exact ⟨0, Nat.zero_le _, rfl, hide (by simp [sameL]), Below.refl _ _⟩
  case round =>
    obtain ⟨k, hk, rfl, hsm, hb⟩ := hrel
    by_cases hlt : k < ks.length
    · obtain ⟨t, ht⟩ : ∃ t, ks[k]? = some t := ⟨_, List.getElem?_eq_getElem hlt⟩
      obtain ⟨u, hu⟩ : ∃ u, ls[k]? = some u := ⟨_, List.getElem?_eq_getElem (by have := unhide hne; omega)⟩
      have htk := hide (show sameL (ks.take (k + 1)) (ls.take (k + 1)) = sameT t u by
        have e1 : ks.take (k + 1) = ks.take k ++ [t] := by rw [List.take_succ_eq_append_getElem hlt]; simp [List.getElem?_eq_getElem hlt] at ht; rw [ht]
        have e2 : ls.take (k + 1) = ls.take k ++ [u] := by rw [List.take_succ_eq_append_getElem (by have := unhide hne; omega)]; simp [List.getElem?_eq_getElem (show k < ls.length by have := unhide hne; omega)] at hu; rw [hu]
        rw [e1, e2, sameL_snoc _ _ _ _ (by have := unhide hne; simp; omega), unhide hsm, Bool.true_and])
      have sr : Sm n₀ W0 wr := hs.trans (Sm.of_below (hb.mono hn))
      rcases unhide hK with h | ⟨b, off, f, ea, hbn, hcs, hV⟩
      · rw [h] at hlt; simp at hlt
      obtain ⟨b', off', a2, c2, ea', hbn', hL2, hcs2⟩ := hL'.cells hu
      have hcs' : ∀ i v, (t.dat.cs (f k).1 t.kids.length (f k).2)[i]? = some v → wr.cell? ⟨b, off + k * 7 + i, none⟩ = some v := fun i v hv => sr.cell hbn (hcs k t ht i v hv)
      replace hcs2 : ∀ i v, (u.dat.cs a2 u.kids.length c2)[i]? = some v → wr.cell? ⟨b', off' + k * 7 + i, none⟩ = some v := fun i v hv => sr.cell hbn' (hcs2 i v hv)
      replace hV := hV k t ht
      clear hcs hK ht hu
      obtain ⟨dt, kt⟩ := t
      obtain ⟨du, ku⟩ := u
      generalize f k = fk at hcs' hV
      obtain ⟨at', ct⟩ := fk
      simp only [Tree.dat, Tree.kids] at hcs' hV hcs2 hL2
      have hd0 := hcs' 0 _ rfl
      have hd1 := hcs' 1 _ rfl
      have hd2 := hcs' 2 _ rfl
      have hd3 := hcs' 3 _ rfl
      have hd4 := hcs' 4 _ rfl
      have hd5 := hcs' 5 _ rfl
      have hd6 := hcs' 6 _ rfl
      have hg0 := hcs2 0 _ rfl
      have hg1 := hcs2 1 _ rfl
      have hg2 := hcs2 2 _ rfl
      have hg3 := hcs2 3 _ rfl
      have hg4 := hcs2 4 _ rfl
      have hg5 := hcs2 5 _ rfl
      have hg6 := hcs2 6 _ rfl
      rw [Nat.add_zero] at hd0 hg0
      clear hcs' hcs2
      subst ea ea'
      have hwr : n₀ ≤ wr.heap.size := Nat.le_trans hn hb.size
      obtain ⟨Wk, hWk⟩ : ∃ Wk, Wk = (wr.alloc (.cells (dt.cs at' kt.length ct) 26)).alloc (.cells (du.cs a2 ku.length c2) 26) := ⟨_, rfl⟩
      have bk : Below wr.heap.size wr Wk := by rw [hWk]; exact ((Below.refl _ _).alloc (Nat.le_refl _) _).alloc (by simp) _
      have xk : Box Wk wr.heap.size 26 (dt.cs at' kt.length ct) := by rw [hWk]; exact (Box.new _ _ _).alloc _
      have yk : Box Wk (wr.heap.size + 1) 26 (du.cs a2 ku.length c2) := by
        have := Box.new (wr.alloc (.cells (dt.cs at' kt.length ct) 26)) 26 (du.cs a2 ku.length c2)
        simp only [World.size_alloc] at this
        rw [hWk]; exact this
      have cV := hide (hV dt du ct c2 a2 ku Wk hL2 (sr.trans (Sm.of_below (bk.mono hwr))) (Nat.le_trans hwr bk.size))
      have hkl : (k : Int) < ks.length := by omega
      have hkl' : (k : Int) < ls.length := by have := unhide hne; omega
      obtain ⟨q0, q1, q2, q3, q4, q5, q6⟩ := xk.seven
      obtain ⟨p0, p1, p2, p3, p4, p5, p6⟩ := yk.seven
      have hb1 : b' < wr.heap.size := by omega
      have gc : ∀ i v, wr.cell? ⟨b', i, none⟩ = some v → (wr.alloc (.cells (dt.cs at' kt.length ct) 26)).cell? ⟨b', i, none⟩ = some v := fun i v h => (((Below.refl _ _).alloc (Nat.le_refl _) _).cell (p := ⟨b', i, none⟩) hb1).trans h
      replace hg0 := gc _ _ hg0
      replace hg1 := gc _ _ hg1
      replace hg2 := gc _ _ hg2
      replace hg3 := gc _ _ hg3
      replace hg4 := gc _ _ hg4
      replace hg5 := gc _ _ hg5
      replace hg6 := gc _ _ hg6
      clear gc
      obtain ⟨Wj, hWj⟩ : ∃ Wj, Wj = wr.alloc (.cells (dt.cs at' kt.length ct) 26) := ⟨_, rfl⟩
      have ej : Wj.heap.size = wr.heap.size + 1 := by rw [hWj]; simp
      rw [← hWj] at hg0 hg1 hg2 hg3 hg4 hg5 hg6 hWk
      replace hWk := hide hWk
      go_upto_region 6 with fail
      rw [← hWj]
      clear hWj hd0 hd1 hd2 hd3 hd4 hd5 hd6
      replace hWk := unhide hWk
      go_upto_region 7 with fail
      rw [← hWk]
      clear hWk hg0 hg1 hg2 hg3 hg4 hg5 hg6
      clear ej
      go_wp2_with fail
      refine (unhide cV).mono ?_
      rintro e W5 ⟨rfl, hb5⟩
      clear cV q0 q1 q2 q3 q4 q5 q6 p0 p1 p2 p3 p4 p5 p6
      have bE := hb.trans ((bk.trans (hb5.mono bk.size)).mono hb.size)
      cases hst : sameT (.mk dt kt) (.mk du ku)
      · have hno := hide (show sameL ks ls = false from sameL_no ks ls (k + 1) (by rw [unhide htk, hst]))
        clear htk
        go_wp2_with fail
        go_ret
        exact ⟨by rw [unhide H, unhide hno]; rfl, bE⟩
      · rw [hst] at htk
        go_wp2_with fail
        go_roundw
        case rel => exact ⟨k + 1, by omega, by go_num, htk, bE⟩
        case measure => simp [intOf]; omega
    · have hke : sameL ks ls = true := by
        have := unhide hsm
        rwa [List.take_of_length_le (by omega), List.take_of_length_le (by have := unhide hne; omega)] at this
      replace hke := hide hke
      go_wp2_with fail
      go_ret
      exact ⟨by rw [unhide H, unhide hke]; rfl, hb⟩

set_option maxRecDepth 100000 in
set_option maxHeartbeats 2000000 in
theorem same_step (n₀ : Nat) (W0 : World) (a : Option Addr) (ks : List Tree) (hL : Lies n₀ W0 a ks)
    (hK : ks = [] ∨ ∃ (b off : Nat) (f : Nat → Option Addr × Nat), a = some ⟨b, off, none⟩ ∧ b < n₀ ∧ (∀ j t, ks[j]? = some t → ∀ i u, (t.dat.cs (f j).1 t.kids.length (f j).2)[i]? = some u → W0.cell? ⟨b, off + j * 7 + i, none⟩ = some u) ∧ ∀ (j : Nat) t, ks[j]? = some t → SameC n₀ W0 (f j).1 t.kids) :
    SameC n₀ W0 a ks := by
  intro d e cap cap' a' ls W hL' hs hn
  obtain ⟨Wk, hWk⟩ : ∃ Wk, Wk = (W.alloc (.cells (d.cs a ks.length cap) 26)).alloc (.cells (e.cs a' ls.length cap') 26) := ⟨_, rfl⟩
  have bk : Below W.heap.size W Wk := by rw [hWk]; exact ((Below.refl _ _).alloc (Nat.le_refl _) _).alloc (by simp) _
  have xk : Box Wk W.heap.size 26 (d.cs a ks.length cap) := by rw [hWk]; exact (Box.new _ _ _).alloc _
  have yk : Box Wk (W.heap.size + 1) 26 (e.cs a' ls.length cap') := by
    have := Box.new (W.alloc (.cells (d.cs a ks.length cap) 26)) 26 (e.cs a' ls.length cap')
    simp only [World.size_alloc] at this
    rw [hWk]; exact this
  obtain ⟨q0, q1, q2, q3, q4, q5, q6⟩ := xk.seven
  obtain ⟨p0, p1, p2, p3, p4, p5, p6⟩ := yk.seven
  have H := hide (show sameT (.mk d ks) (.mk e ls) = (decide (d.op = e.op) && decide (d.k = e.k ∧ d.n = e.n ∧ d.s.1.toList = e.s.1.toList) && (d.al.1.toList == e.al.1.toList) && (d.fd.1.toList == e.fd.1.toList) && (decide (ks.length = ls.length) && sameL ks ls)) by rw [sameT]; rfl)
  replace hK := hide hK
  go_enter Tryd.func79, Tryd.ntmps79
  go_upto_region 1 with fail
  rw [← hWk]
  clear hWk
  by_cases c1 : d.op = e.op
  case neg =>
    have e1 : (d.op == e.op) = false := by simp [c1]
    rw [decide_eq_false c1] at H
    clear c1
    go_wp2_with fail
    go_ret
    exact ⟨by rw [unhide H]; rfl, bk⟩
  have e1 : (d.op == e.op) = true := by simp [c1]
  rw [decide_eq_true c1] at H
  clear c1
  have cS := hide (sameV_c d.k d.n e.k e.n d.s.1 e.s.1 Wk)
  go_wp2_with fail
  refine (unhide cS).mono ?_
  rintro r W2 ⟨rfl, hb2⟩
  clear cS
  have xk2 := xk.on hb2 xk.lt
  have yk2 := yk.on hb2 yk.lt
  clear q0 q1 q2 q3 q4 q5 q6 p0 p1 p2 p3 p4 p5 p6
  obtain ⟨q0, q1, q2, q3, q4, q5, q6⟩ := xk2.seven
  obtain ⟨p0, p1, p2, p3, p4, p5, p6⟩ := yk2.seven
  have bk2 := bk.trans (hb2.mono bk.size)
  cases c2 : decide (d.k = e.k ∧ d.n = e.n ∧ d.s.1.toList = e.s.1.toList)
  · rw [c2] at H
    go_wp2_with fail
    go_ret
    exact ⟨by rw [unhide H]; rfl, bk2⟩
  rw [c2] at H
  clear c2
  cases c3 : d.al.1.toList == e.al.1.toList
  · rw [c3] at H
    go_wp2_with fail
    all_goals go_ret
    all_goals exact ⟨by rw [unhide H]; rfl, bk2⟩
  rw [c3] at H
  cases c4 : d.fd.1.toList == e.fd.1.toList
  · rw [c4] at H
    go_wp2_with fail
    all_goals go_ret
    all_goals exact ⟨by rw [unhide H]; rfl, bk2⟩
  rw [c4] at H
  have cE := hide (eqF_c n₀ W0 a a' ks ls cap cap' hL hL' (unhide hK) W2 (hs.trans (Sm.of_below (bk2.mono hn))) (Nat.le_trans hn bk2.size))
  go_wp2_with fail
  refine (unhide cE).mono ?_
  rintro r W3 ⟨rfl, hb3⟩
  go_wp2_with fail
  go_ret
  exact ⟨by rw [unhide H]; simp, bk2.trans (hb3.mono bk2.size)⟩

theorem same_C (n₀ : Nat) (W0 : World) (a : Option Addr) (ks : List Tree) (hL : Lies n₀ W0 a ks) : SameC n₀ W0 a ks := by
  induction hL with
  | nil a => exact same_step n₀ W0 a [] (.nil a) (.inl rfl)
  | row b off ks f hl hb hc hk ih => exact same_step n₀ W0 _ ks (.row b off ks f hl hb hc hk) (.inr ⟨b, off, f, rfl, hb, hc, ih⟩)

theorem same_c (d e : Dat) (cap cap' : Nat) (a a' : Option Addr) (ks ls : List Tree) (W : World) (hL : Lies W.heap.size W a ks) (hL' : Lies W.heap.size W a' ls) :
    Calls Tryd.prog 79 #[d.v a ks.length cap, e.v a' ls.length cap'] W fun r W' => r = .returned (.bool (sameT (.mk d ks) (.mk e ls))) ∧ Below W.heap.size W W' :=
  same_C W.heap.size W a ks hL d e cap cap' a' ls W hL' (Sm.refl _ _) (Nat.le_refl _)

end Go.Proofs.YtfofpenajkaalaaDoor
