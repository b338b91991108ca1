/-
  What areTypes and isElem answer: for every element that lies, in whatever world; nothing that lay is turned.
-/
import Derived.Test.YtfofpenajkaalaaDoorElem
namespace Go.Proofs.YtfofpenajkaalaaDoor
open Go.RowKit Go.Shelf

theorem noName_c (s : ByteArray) (hs : s.size ≤ maxLen) (w : World) : Calls Tryd.prog 91 #[.string s] w fun r w' => r = .returned (.bool (!nameB s)) ∧ Below w.heap.size w w' := by
  have cN := hide (name21 s w hs)
  go_enter Tryd.func91, Tryd.ntmps91
  go_wp2_with fail
  refine (unhide cN).mono ?_
  rintro r w2 ⟨rfl, hb2⟩
  go_wp2_with fail
  go_ret
  exact ⟨rfl, hb2⟩

/-- Some text is no name. -/
def anyNo (ts : List Txt) : Bool := ts.any fun t => !nameB t.1

set_option maxRecDepth 100000 in
set_option maxHeartbeats 2000000 in
theorem indexT_c (a : Option Addr) (cap : Nat) (ts : List Txt) (w : World) (hT : Txts w.heap.size w a ts) :
    Calls Tryd.prog 98 #[.slice a ts.length cap, .func (.func 91) #[] #[]] w fun r w' => (∃ i : Int, r = .returned (.int .i64 i) ∧ decide (0 ≤ i) = anyNo ts) ∧ Below w.heap.size w w' := by
  have h1 := hT.1
  go_enter Tryd.func98, Tryd.ntmps98
  go_wp2_with fail
  go_loopw [8] (fun i wr => ∃ k : Nat, k ≤ ts.length ∧ i = .int .i64 k ∧ Hid (anyNo (ts.take k) = false) ∧ Below w.heap.size w wr) (fun i _ => ts.length - (intOf i).toNat)
  case atStart => exact ⟨0, Nat.zero_le _, rfl, hide (by simp [anyNo]), Below.refl _ _⟩
  case round =>
    obtain ⟨k, hk, rfl, hp, hb⟩ := hrel
    by_cases hlt : k < ts.length
    · obtain ⟨t, ht⟩ : ∃ t, ts[k]? = some t := ⟨_, List.getElem?_eq_getElem hlt⟩
      obtain ⟨b, off, ea, hd0⟩ : ∃ b off, a = some ⟨b, off, none⟩ ∧ wr.cell? ⟨b, off + k, none⟩ = some (.string t.1) := by
        rcases hT.2 with h0 | ⟨b, off, e, hbn, hc⟩
        · rw [h0] at hlt; simp at hlt
        · exact ⟨b, off, e, (hb.cell (p := ⟨b, off + k, none⟩) hbn).trans (hc k t ht)⟩
      have htk := hide (show anyNo (ts.take (k + 1)) = !nameB t.1 by
        have e1 : ts.take (k + 1) = ts.take k ++ [t] := by rw [List.take_succ_eq_append_getElem hlt]; simp [List.getElem?_eq_getElem hlt] at ht; rw [ht]
        have := unhide hp
        unfold anyNo at this ⊢
        rw [e1, List.any_append, this]; simp)
      have hmem := hide (List.mem_of_getElem? ht)
      clear ht
      subst ea
      have cA := hide (noName_c t.1 t.2 wr)
      have hkl : (k : Int) < ts.length := by omega
      have hk0 : (0 : Int) ≤ k := by omega
      replace hT := hide hT
      go_wp2_with fail
      refine (unhide cA).mono ?_
      rintro r w2 ⟨rfl, hb2⟩
      clear cA hd0
      have bE := hb.trans (hb2.mono hb.size)
      cases hq : (!nameB t.1)
      · rw [hq] at htk
        go_wp2_with fail
        go_roundw
        case rel => exact ⟨k + 1, by omega, by go_num, htk, bE⟩
        case measure => simp [intOf]; omega
      · have hyes := hide (show anyNo ts = true from List.any_eq_true.2 ⟨t, unhide hmem, hq⟩)
        go_wp2_with fail
        go_ret
        exact ⟨⟨k, rfl, by rw [unhide hyes]; simp⟩, bE⟩
    · have hke : anyNo ts = false := by
        have := unhide hp
        rwa [List.take_of_length_le (by omega)] at this
      replace hke := hide hke
      go_wp2_with fail
      go_ret
      exact ⟨⟨-1, rfl, by rw [unhide hke]; simp⟩, hb⟩

theorem containsT_c (a : Option Addr) (cap : Nat) (ts : List Txt) (w : World) (hT : Txts w.heap.size w a ts) :
    Calls Tryd.prog 90 #[.slice a ts.length cap, .func (.func 91) #[] #[]] w fun r w' => r = .returned (.bool (anyNo ts)) ∧ Below w.heap.size w w' := by
  have cI := hide (indexT_c a cap ts w hT)
  go_enter Tryd.func90, Tryd.ntmps90
  go_wp2_with fail
  refine (unhide cI).mono ?_
  rintro r w2 ⟨⟨i, rfl, hi⟩, hb2⟩
  cases hq : anyNo ts
  all_goals
    rw [hq] at hi
    replace hi := hide hi
    have hi' := unhide hi
    simp only [decide_eq_true_eq, decide_eq_false_iff_not] at hi'
    go_wp2_with fail
    go_ret
    exact ⟨by first | rfl | simp_all, hb2⟩

/-- The types of an element as they may be. -/
def typesB (ts : List Txt) : Bool := (decide (1 ≤ ts.length) && decide (ts.length ≤ 3)) && riseB (ts.map (·.1)) && !anyNo ts

set_option maxHeartbeats 1000000 in
theorem areTypes_c (a : Option Addr) (cap : Nat) (ts : List Txt) (w : World) (hT : Txts w.heap.size w a ts) :
    Calls Tryd.prog 78 #[.slice a ts.length cap] w fun r w' => r = .returned (.bool (typesB ts)) ∧ Below w.heap.size w w' := by
  have h1 := hT.1
  by_cases c1 : 1 ≤ ts.length
  case neg =>
    have H := hide (show typesB ts = false by simp only [typesB]; rw [decide_eq_false c1]; rfl)
    have e1 : ¬ (1 : Int) ≤ ts.length := by omega
    clear c1
    replace hT := hide hT
    go_enter Tryd.func78, Tryd.ntmps78
    go_wp2_with fail
    go_ret
    exact ⟨by rw [unhide H]; rfl, Below.refl _ _⟩
  have e1 : (1 : Int) ≤ ts.length := by omega
  by_cases c2 : ts.length ≤ 3
  case neg =>
    have H := hide (show typesB ts = false by simp only [typesB]; rw [decide_eq_false c2, Bool.and_false]; rfl)
    have e2 : ¬ (ts.length : Int) ≤ 3 := by omega
    clear c1 c2
    replace hT := hide hT
    go_enter Tryd.func78, Tryd.ntmps78
    go_wp2_with fail
    go_ret
    exact ⟨by rw [unhide H]; rfl, Below.refl _ _⟩
  have e2 : (ts.length : Int) ≤ 3 := by omega
  have H := hide (show typesB ts = (riseB (ts.map (·.1)) && !anyNo ts) by simp only [typesB]; rw [decide_eq_true c1, decide_eq_true c2]; simp)
  have cR := hide (callsIn_wide.1 (rise_in 3 (by omega) a ts.length cap (ts.map (·.1)) (by rw [List.length_map]; omega) w (hT.strs cap)))
  clear c1 c2
  have cC : ∀ w', Below w.heap.size w w' → Hid (Calls Tryd.prog 90 #[.slice a ts.length cap, .func (.func 91) #[] #[]] w' fun r w'' => r = .returned (.bool (anyNo ts)) ∧ Below w'.heap.size w' w'') := fun w' hb => hide (containsT_c a cap ts w' (hT.on hb))
  replace hT := hide hT
  go_enter Tryd.func78, Tryd.ntmps78
  go_wp2_with fail
  refine (unhide cR).mono ?_
  rintro r w2 ⟨rfl, hb2⟩
  clear cR
  have cC2 := cC w2 hb2
  clear cC
  cases hr : riseB (ts.map (·.1))
  · rw [hr] at H
    go_wp2_with fail
    go_ret
    exact ⟨by rw [unhide H]; rfl, hb2⟩
  · rw [hr] at H
    go_wp2_with fail
    refine (unhide cC2).mono ?_
    rintro r w3 ⟨rfl, hb3⟩
    go_wp2_with fail
    go_ret
    exact ⟨by rw [unhide H]; rfl, hb2.trans (hb3.mono hb2.size)⟩

def d0 : Dat := ⟨0, 0, 0, ⟨⟨#[]⟩, by decide⟩, ⟨⟨#[]⟩, by decide⟩, ⟨⟨#[]⟩, by decide⟩⟩
/-- An element as it may be. -/
def elemB (e : Em) : Bool := nameB e.al.1 && typesB e.ts && !(e.pl && e.nt) && (sameT e.t (.mk d0 []) || isT e.t)

set_option maxRecDepth 100000 in
set_option maxHeartbeats 2000000 in
theorem isElem_c (e : Em) (p : Pl) (w : World) (hE : EmIn w.heap.size w e p) :
    Calls Tryd.prog 66 #[e.v p] w fun r w' => r = .returned (.bool (elemB e)) ∧ Below w.heap.size w w' := by
  obtain ⟨W, hW⟩ : ∃ W, W = w.alloc (.cells (e.cs p) 42) := ⟨_, rfl⟩
  have bW : Below w.heap.size w W := by rw [hW]; exact (Below.refl _ _).alloc (Nat.le_refl _) _
  have xb : Box W w.heap.size 42 (e.cs p) := by rw [hW]; exact Box.new _ _ _
  have E1 := hE.on bW
  obtain ⟨h0, h1, h2, h3, h4, h5, h6, h7, h8, h9, h10⟩ := xb.eleven
  go_enter Tryd.func66, Tryd.ntmps66
  go_upto_region 1 with fail
  rw [← hW]
  clear hW
  replace E1 := hide E1
  replace hE := hide hE
  have cN := hide (name21 e.al.1 W e.al.2)
  go_wp2_with fail
  refine (unhide cN).mono ?_
  rintro r w1 ⟨rfl, hb1⟩
  clear cN
  have b1 := bW.trans (hb1.mono bW.size)
  cases c1 : nameB e.al.1
  · have H := hide (show elemB e = false by simp [elemB, c1])
    go_wp2_with fail
    go_ret
    exact ⟨by rw [unhide H]; rfl, b1⟩
  have x1 := xb.on hb1 xb.lt
  clear h0 h1 h2 h3 h4 h5 h6 h7 h8 h9 h10
  obtain ⟨h0, h1, h2, h3, h4, h5, h6, h7, h8, h9, h10⟩ := x1.eleven
  have cT := hide (areTypes_c p.ta p.tc e.ts w1 ((unhide E1).on hb1).1)
  go_wp2_with fail
  refine (unhide cT).mono ?_
  rintro r w2 ⟨rfl, hb2⟩
  clear cT
  have b2 := b1.trans (hb2.mono b1.size)
  cases c2 : typesB e.ts
  · have H := hide (show elemB e = false by simp [elemB, c2])
    go_wp2_with fail
    go_ret
    exact ⟨by rw [unhide H]; rfl, b2⟩
  have x2 := x1.on hb2 x1.lt
  clear h0 h1 h2 h3 h4 h5 h6 h7 h8 h9 h10
  obtain ⟨h0, h1, h2, h3, h4, h5, h6, h7, h8, h9, h10⟩ := x2.eleven
  have hb12 := hb1.trans (hb2.mono hb1.size)
  have L2 := ((unhide E1).on hb12).2
  have cS := hide (same_c e.t.dat d0 p.kc 0 p.ka none e.t.kids [] w2 L2 (.nil none))
  have cI : ∀ w', Below w2.heap.size w2 w' → Hid (Calls Tryd.prog 24 #[e.t.dat.v p.ka e.t.kids.length p.kc] w' fun r W' => r = .returned (.bool (isT (.mk e.t.dat e.t.kids))) ∧ Below w'.heap.size w' W') := fun w' hb => hide (isT_c e.t.dat p.ka e.t.kids p.kc w' (L2.on hb))
  replace L2 := hide L2
  have H := hide (show elemB e = (!(e.pl && e.nt) && (sameT (.mk e.t.dat e.t.kids) (.mk d0 []) || isT (.mk e.t.dat e.t.kids))) by simp only [elemB]; rw [c1, c2]; cases e.t; simp)
  clear c1 c2
  cases c3 : e.pl
  all_goals cases c4 : e.nt
  case true.true =>
    rw [c3, c4] at H
    rw [c3] at h2
    rw [c4] at h3
    go_wp2_with fail
    go_ret
    exact ⟨by rw [unhide H]; rfl, b2⟩
  all_goals
    rw [c3, c4] at H
    rw [c3] at h2
    rw [c4] at h3
    go_wp2_with fail
    refine (unhide cS).mono ?_
    rintro r w3 ⟨rfl, hb3⟩
    have b3 := b2.trans (hb3.mono b2.size)
    have x3 := x2.on hb3 x2.lt
    have cI3 := cI w3 hb3
    clear h0 h1 h2 h3 h4 h5 h6 h7 h8 h9 h10 cI cS
    obtain ⟨h0, h1, h2, h3, h4, h5, h6, h7, h8, h9, h10⟩ := x3.eleven
    cases c5 : sameT (.mk e.t.dat e.t.kids) (.mk d0 [])
    · rw [c5] at H
      go_wp2_with fail
      refine (unhide cI3).mono ?_
      rintro r w4 ⟨rfl, hb4⟩
      go_wp2_with fail
      go_ret
      exact ⟨by rw [unhide H]; simp, b3.trans (hb4.mono b3.size)⟩
    · rw [c5] at H
      go_wp2_with fail
      go_ret
      exact ⟨by rw [unhide H]; rfl, b3⟩

end Go.Proofs.YtfofpenajkaalaaDoor
