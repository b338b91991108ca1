/-
  What Pattern, sameElem and SamePattern answer: for every pattern that lies, in whatever world; nothing that lay is turned.
-/
import Derived.Test.YtbmgfibadpffgaaRowIs
namespace Go.Proofs.Ytbmgfibadpffgaa
open Go.RowKit Go.Shelf

/-- A pattern. -/
structure Pt where
  es : List Em
  wi : Int
  nm : Txt
  any : Bool
abbrev Pt.cs (q : Pt) (a : Option Addr) (cap : Nat) : Array Value := #[.slice a q.es.length cap, .int .i64 q.wi, .string q.nm.1, .bool q.any]
abbrev Pt.v (q : Pt) (a : Option Addr) (cap : Nat) : Value := .agg (q.cs a cap)
theorem Box.four {W : World} {B : Nat} {t : TypeId} {a b c d : Value} (h : Box W B t #[a, b, c, d]) : W.cell? ⟨B, 0, none⟩ = some a ∧ W.cell? ⟨B, 1, none⟩ = some b ∧ W.cell? ⟨B, 2, none⟩ = some c ∧ W.cell? ⟨B, 3, none⟩ = some d :=
  ⟨h.at 0 rfl, h.at 1 rfl, h.at 2 rfl, h.at 3 rfl⟩

/-- A pattern as it may be. -/
def patB (q : Pt) : Bool := rowB q.es && decide (0 ≤ q.wi) && decide (q.wi ≤ 1000) && (q.nm.1.toList.isEmpty || nameB q.nm.1)

set_option maxRecDepth 100000 in
set_option maxHeartbeats 2000000 in
theorem pattern_c (q : Pt) (a : Option Addr) (cap : Nat) (hcap : q.es.length ≤ cap) (w : World) (hE : Ems w.heap.size w a q.es) :
    Calls Try.prog 13 #[q.v a cap] w fun r w' => r = .returned (.bool (patB q)) ∧ Below w.heap.size w w' := by
  obtain ⟨W, hW⟩ : ∃ W, W = w.alloc (.cells (q.cs a cap) 37) := ⟨_, rfl⟩
  have bW : Below w.heap.size w W := by rw [hW]; exact (Below.refl _ _).alloc (Nat.le_refl _) _
  have xb : Box W w.heap.size 37 (q.cs a cap) := by rw [hW]; exact Box.new _ _ _
  have cR := hide (isRow_c a cap q.es hcap W (hE.on bW))
  obtain ⟨h0, h1, h2, h3⟩ := xb.four
  go_enter Try.func13, Try.ntmps13
  go_upto_region 1 with fail
  rw [← hW]
  clear hW
  replace hE := hide hE
  go_wp2_with fail
  refine (unhide cR).mono ?_
  rintro r w1 ⟨rfl, hb1⟩
  clear cR
  have b1 := bW.trans (hb1.mono bW.size)
  have x1 := xb.on hb1 xb.lt
  clear h0 h1 h2 h3
  obtain ⟨h0, h1, h2, h3⟩ := x1.four
  cases c1 : rowB q.es
  · have H := hide (show patB q = false by simp [patB, c1])
    go_wp2_with fail
    go_ret
    exact ⟨by rw [unhide H]; rfl, b1⟩
  by_cases c2 : 0 ≤ q.wi
  case neg =>
    have H := hide (show patB q = false by simp [patB, c2])
    go_wp2_with fail
    go_ret
    exact ⟨by rw [unhide H]; rfl, b1⟩
  by_cases c3 : q.wi ≤ 1000
  case neg =>
    have H := hide (show patB q = false by simp [patB, c3])
    go_wp2_with fail
    go_ret
    exact ⟨by rw [unhide H]; rfl, b1⟩
  have H := hide (show patB q = (q.nm.1.toList.isEmpty || nameB q.nm.1) by simp only [patB]; rw [c1, decide_eq_true c2, decide_eq_true c3]; simp)
  clear c1
  have cN := hide (name21 q.nm.1 w1 q.nm.2)
  cases c4 : q.nm.1.toList.isEmpty
  · rw [c4] at H
    go_wp2_with fail
    refine (unhide cN).mono ?_
    rintro r w2 ⟨rfl, hb2⟩
    go_wp2_with fail
    go_ret
    exact ⟨by rw [unhide H]; rfl, b1.trans (hb2.mono b1.size)⟩
  · rw [c4] at H
    go_wp2_with fail
    go_ret
    exact ⟨by rw [unhide H]; rfl, b1⟩

/-- Texts are the same, as far as the first goes. -/
def sameTxs (ts us : List Txt) : Bool := (ts.zip us).all fun p => p.1.1.toList == p.2.1.toList
theorem sameTxs_snoc (ts us : List Txt) (x y : Txt) (h : ts.length = us.length) : sameTxs (ts ++ [x]) (us ++ [y]) = (sameTxs ts us && (x.1.toList == y.1.toList)) := by
  simp [sameTxs, List.zip_append h]
theorem sameTxs_no (ts us : List Txt) (k : Nat) (h : sameTxs (ts.take k) (us.take k) = false) : sameTxs ts us = false := by
  unfold sameTxs at *
  rw [List.zip_eq_zipWith, ← List.take_zipWith, ← List.zip_eq_zipWith, List.all_eq_false] at h
  rw [List.all_eq_false]
  obtain ⟨x, hx, hn⟩ := h
  exact ⟨x, List.mem_of_mem_take hx, hn⟩

set_option maxRecDepth 100000 in
set_option maxHeartbeats 2000000 in
theorem equalT_c (a a' : Option Addr) (cap cap' : Nat) (ts us : List Txt) (w : World) (hT : Txts w.heap.size w a ts) (hU : Txts w.heap.size w a' us) :
    Calls Try.prog 37 #[.slice a ts.length cap, .slice a' us.length cap'] w fun r w' => r = .returned (.bool (decide (ts.length = us.length) && sameTxs ts us)) ∧ Below w.heap.size w w' := by
  have h1 := hT.1
  have h2 := hU.1
  by_cases hne : ts.length = us.length
  case neg =>
    have H := hide (show (decide (ts.length = us.length) && sameTxs ts us) = false by simp [hne])
    have e1 : ((ts.length : Int) != (us.length : Int)) = true := by simp; omega
    clear hne
    go_enter Try.func37, Try.ntmps37
    go_wp2_with fail
    go_ret
    exact ⟨by rw [unhide H]; rfl, Below.refl _ _⟩
  have H := hide (show (decide (ts.length = us.length) && sameTxs ts us) = sameTxs ts us by simp [hne])
  have e1 : ((ts.length : Int) != (us.length : Int)) = false := by simp; omega
  replace hne := hide hne
  go_enter Try.func37, Try.ntmps37
  go_wp2_with fail
  go_loopw [13] (fun i wr => ∃ k : Nat, k ≤ ts.length ∧ i = .int .i64 k ∧ Hid (sameTxs (ts.take k) (us.take k) = true) ∧ Below w.heap.size w wr) (fun i _ => ts.length - (intOf i).toNat)
  case atStart => exact ⟨0, Nat.zero_le _, rfl, hide (by simp [sameTxs]), Below.refl _ _⟩
  case round =>
    obtain ⟨k, hk, rfl, hsm, hb⟩ := hrel
    by_cases hlt : k < ts.length
    · obtain ⟨t, ht⟩ : ∃ t, ts[k]? = some t := ⟨_, List.getElem?_eq_getElem hlt⟩
      obtain ⟨u, hu⟩ : ∃ u, us[k]? = some u := ⟨_, List.getElem?_eq_getElem (by have := unhide hne; omega)⟩
      have htk := hide (show sameTxs (ts.take (k + 1)) (us.take (k + 1)) = (t.1.toList == u.1.toList) by
        have e1 : ts.take (k + 1) = ts.take k ++ [t] := by rw [List.take_succ_eq_append_getElem hlt]; simp [List.getElem?_eq_getElem hlt] at ht; rw [ht]
        have e2 : us.take (k + 1) = us.take k ++ [u] := by rw [List.take_succ_eq_append_getElem (by have := unhide hne; omega)]; simp [List.getElem?_eq_getElem (show k < us.length by have := unhide hne; omega)] at hu; rw [hu]
        rw [e1, e2, sameTxs_snoc _ _ _ _ (by have := unhide hne; simp; omega), unhide hsm, Bool.true_and])
      obtain ⟨b, off, ea, hd0⟩ : ∃ b off, a = some ⟨b, off, none⟩ ∧ wr.cell? ⟨b, off + k, none⟩ = some (.string t.1) := by
        rcases hT.2 with h0 | ⟨b, off, e, hbn, hc⟩
        · rw [h0] at hlt; simp at hlt
        · exact ⟨b, off, e, (hb.cell (p := ⟨b, off + k, none⟩) hbn).trans (hc k t ht)⟩
      obtain ⟨b', off', ea', hd1⟩ : ∃ b off, a' = some ⟨b, off, none⟩ ∧ wr.cell? ⟨b, off + k, none⟩ = some (.string u.1) := by
        rcases hU.2 with h0 | ⟨b, off, e, hbn, hc⟩
        · rw [h0] at hu; simp at hu
        · exact ⟨b, off, e, (hb.cell (p := ⟨b, off + k, none⟩) hbn).trans (hc k u hu)⟩
      subst ea ea'
      have hkl : (k : Int) < ts.length := by omega
      have hkl' : (k : Int) < us.length := by have := unhide hne; omega
      have hk0 : (0 : Int) ≤ k := by omega
      clear ht hu
      replace hT := hide hT
      replace hU := hide hU
      cases hst : (t.1.toList == u.1.toList)
      · have hno := hide (show sameTxs ts us = false from sameTxs_no ts us (k + 1) (by rw [unhide htk, hst]))
        go_wp2_with fail
        go_quiet (fail)
        go_wp2_with fail
        go_ret
        exact ⟨by rw [unhide H, unhide hno]; rfl, below_drewN hb _⟩
      · rw [hst] at htk
        go_wp2_with fail
        go_quiet (fail)
        go_wp2_with fail
        go_roundw
        case rel => exact ⟨k + 1, by omega, by go_num, htk, below_drewN hb _⟩
        case measure => simp [intOf]; omega
    · have hke : sameTxs ts us = true := by
        have := unhide hsm
        rwa [List.take_of_length_le (by omega), List.take_of_length_le (by have := unhide hne; omega)] at this
      replace hke := hide hke
      go_wp2_with fail
      go_ret
      exact ⟨by rw [unhide H, unhide hke]; rfl, hb⟩

end Go.Proofs.Ytbmgfibadpffgaa
