/-
  What the document's Kids and shaped answer: for every tree that lies, in whatever world; nothing that lay is turned.
-/
import Derived.Test.YtfofpenajkaalaaDoorRefRise
namespace Go.Proofs.YtfofpenajkaalaaDoor
open Go.RowKit Go.Shelf

set_option maxHeartbeats 400000 in
theorem refKids_c (op : Int) (w : World) : Calls Tryd.prog 54 #[.int .i64 op] w fun e w' => e = .returned (.int .i64 (kidsN op)) ∧ w' = w := by
  by_cases h1 : op = 12
  · subst h1
    go_enter Tryd.func54, Tryd.ntmps54
    go_wp2
    go_ret
    exact ⟨rfl, rfl⟩
  have e1 : (op == 12) = false := by simp [h1]
  by_cases h2 : 3 ≤ op
  · by_cases h3 : op ≤ 11
    · have H := hide (show kidsN op = 2 by simp [kidsN, h1, h2, h3])
      clear h1
      go_enter Tryd.func54, Tryd.ntmps54
      go_wp2
      go_ret
      exact ⟨by rw [unhide H]; rfl, rfl⟩
    · have H := hide (show kidsN op = 0 by simp [kidsN, h1, h3])
      clear h1
      go_enter Tryd.func54, Tryd.ntmps54
      go_wp2
      go_ret
      exact ⟨by rw [unhide H]; rfl, rfl⟩
  · have H := hide (show kidsN op = 0 by simp [kidsN, h1, h2])
    clear h1
    go_enter Tryd.func54, Tryd.ntmps54
    go_wp2
    go_ret
    exact ⟨by rw [unhide H]; rfl, rfl⟩

theorem eqlV (k n k' n' : Int) (s s' : ByteArray) (W : World) : (binOp .eql 23 (.agg #[.int .i64 k, .int .i64 n, .string s]) (.agg #[.int .i64 k', .int .i64 n', .string s'])).run Tryd.prog W = .ok (.bool (decide (k = k' ∧ n = n' ∧ s.toList = s'.toList))) W := by
  by_cases h1 : k = k'
  · by_cases h2 : n = n'
    · by_cases h3 : s.toList = s'.toList
      · subst h1 h2
        have e3 : (s.toList == s'.toList) = true := by simp [h3]
        go_simp
      · have e3 : (s.toList == s'.toList) = false := by simp [h3]
        go_simp
    · have e2 : (n == n') = false := by simp [h2]
      go_simp
  · have e1 : (k == k') = false := by simp [h1]
    go_simp

theorem nil_toList : (⟨#[]⟩ : ByteArray).toList = [] := by kernel_rfl
theorem eqlV0 (d : Dat) (W : World) : (binOp .eql 23 (.agg #[.int .i64 d.k, .int .i64 d.n, .string d.s.1]) (.agg #[.int .i64 0, .int .i64 0, .string ⟨#[]⟩])).run Tryd.prog W = .ok (.bool (zeroB d)) W := by
  rw [eqlV, nil_toList]; rfl

mutual
/-- A condition as it may be, as the document asks it: each node by its depth. -/
def shapedT (n : Nat) : Tree → Bool
  | .mk x ks => (decide (n ≤ 5) && soundB x ks.length) && shapedL (n + 1) ks
def shapedL (n : Nat) : List Tree → Bool
  | [] => true
  | t :: ts => shapedT n t && shapedL n ts
end
theorem shapedL_append (n : Nat) (ts us : List Tree) : shapedL n (ts ++ us) = (shapedL n ts && shapedL n us) := by
  induction ts with
  | nil => simp [shapedL]
  | cons t ts ih => simp [shapedL, ih, Bool.and_assoc]
theorem shapedL_no (n : Nat) (ts : List Tree) (k : Nat) (h : shapedL n (ts.take k) = false) : shapedL n ts = false := by
  rw [← List.take_append_drop k ts, shapedL_append, h, Bool.false_and]

/-- What shaped does with a node whose kids lie at a. -/
def ShapedC (n₀ : Nat) (W0 : World) (a : Option Addr) (ks : List Tree) : Prop :=
  ∀ (d : Dat) (cap n : Nat) (W : World), n ≤ 6 → Sm n₀ W0 W → n₀ ≤ W.heap.size →
    Calls Tryd.prog 29 #[d.v a ks.length cap, .int .i64 n] W fun r W' => r = .returned (.bool (shapedT n (.mk d ks))) ∧ Below W.heap.size W W'

set_option maxRecDepth 100000 in
set_option maxHeartbeats 4000000 in
theorem shaped_step (n₀ : Nat) (W0 : World) (a : Option Addr) (ks : List Tree) (hlen : ks.length ≤ 1099511627776)
    (hK : ks = [] ∨ ∃ (b off : Nat) (f : Nat → Option Addr × Nat), a = some ⟨b, off, none⟩ ∧ b < n₀ ∧ (∀ j t, ks[j]? = some t → ∀ i u, (t.dat.cs (f j).1 t.kids.length (f j).2)[i]? = some u → W0.cell? ⟨b, off + j * 7 + i, none⟩ = some u) ∧ ∀ (j : Nat) t, ks[j]? = some t → ShapedC n₀ W0 (f j).1 t.kids) :
    ShapedC n₀ W0 a ks := by
  intro d cap n w hn6 hs hn
  obtain ⟨m, hm⟩ : ∃ m, m = ks.length := ⟨_, rfl⟩
  obtain ⟨W, hW⟩ : ∃ W, W = w.alloc (.cells (d.cs a ks.length cap) 26) := ⟨_, rfl⟩
  have bW : Below w.heap.size w W := by rw [hW]; exact (Below.refl _ _).alloc (Nat.le_refl _) _
  have xb : Box W w.heap.size 26 (d.cs a ks.length cap) := by rw [hW]; exact Box.new _ _ _
  obtain ⟨op, k, nn, s, al, fd⟩ := d
  obtain ⟨h0, h1, h2, h3, h4, h5, h6⟩ := xb.seven
  simp only at h0 h1 h2 h3 h4 h5 h6
  have HS := hide (show shapedT n (.mk ⟨op, k, nn, s, al, fd⟩ ks) = ((decide (n ≤ 5) && soundB ⟨op, k, nn, s, al, fd⟩ m) && shapedL (n + 1) ks) by rw [hm]; rfl)
  replace hK := hide hK
  rw [← hm] at h6 hW xb hlen ⊢
  replace hm := hide hm
  go_enter Tryd.func29, Tryd.ntmps29
  go_upto_region 1 with fail
  dsimp only [Dat.cs] at hW
  rw [← hW]
  clear hW
  by_cases c1 : 1 ≤ op
  case neg =>
    have H := hide (show soundB ⟨op, k, nn, s, al, fd⟩ m = false by simp [soundB, c1])
    have e1 : decide (op < 1) = true := by simp; omega
    go_quiet (fail)
    go_wp2_with fail
    go_ret
    exact ⟨by rw [unhide HS, unhide H]; simp, Box.bd bW⟩
  have e1 : decide (op < 1) = false := by simp; omega
  by_cases c2 : op ≤ 12
  case neg =>
    have H := hide (show soundB ⟨op, k, nn, s, al, fd⟩ m = false by simp [soundB, c2])
    have e2 : decide (12 < op) = true := by simp; omega
    clear c1
    go_quiet (fail)
    go_wp2_with fail
    go_ret
    exact ⟨by rw [unhide HS, unhide H]; simp, Box.bd bW⟩
  have e2 : decide (12 < op) = false := by simp; omega
  by_cases c3 : m = kidsN op
  case neg =>
    have H := hide (show soundB ⟨op, k, nn, s, al, fd⟩ m = false by simp [soundB, c3])
    have e3 : ((m : Int) != (kidsN op : Int)) = true := by simp; omega
    replace c3 := hide c3
    clear c1 c2
    go_quiet ((go_at_call 54; exact Calls.quiet_of_same (refKids_c _ _)))
    go_wp2_with fail
    go_ret
    exact ⟨by rw [unhide HS, unhide H]; simp, Box.bd bW⟩
  have e3 : ((m : Int) != (kidsN op : Int)) = false := by simp; omega
  replace c3 := hide c3
  by_cases c4 : n ≤ 5
  case neg =>
    have H := hide (show decide (n ≤ 5) = false by simp [c4])
    have e4 : decide (5 < (n : Int)) = true := by simp; omega
    clear c1 c2 c4
    go_quiet ((go_at_call 54; exact Calls.quiet_of_same (refKids_c _ _)))
    go_wp2_with fail
    go_ret
    exact ⟨by rw [unhide HS, unhide H]; simp, Box.bd bW⟩
  have e4 : decide (5 < (n : Int)) = false := by simp; omega
  go_quiet ((go_at_call 54; exact Calls.quiet_of_same (refKids_c _ _)))
  clear e1 e2 e3 e4
  obtain ⟨W2, hW2⟩ : ∃ W2, W2 = W.drewN nq := ⟨_, rfl⟩
  have bW2 : Below w.heap.size w W2 := by rw [hW2]; exact Box.bd bW
  have xb2 : Box W2 w.heap.size 26 (Dat.cs ⟨op, k, nn, s, al, fd⟩ a m cap) := by rw [hW2]; exact xb.drewN _
  rw [← hW2]
  clear hW2 h0 h1 h2 h3 h4 h5 h6 xb bW
  obtain ⟨h0, h1, h2, h3, h4, h5, h6⟩ := xb2.seven
  simp only at h0 h1 h2 h3 h4 h5 h6
  have hs' := s.2
  have c12 : (decide (n ≤ 5) && (decide (1 ≤ op) && decide (op ≤ 12) && decide (m = kidsN op))) = true := by simp [c1, c2, unhide c3, c4]
  obtain ⟨z, hz⟩ : ∃ z, z = zeroB ⟨op, k, nn, s, al, fd⟩ := ⟨_, rfl⟩
  have heq : ∀ W, (binOp .eql 23 (.agg #[.int .i64 k, .int .i64 nn, .string s.1]) (.agg #[.int .i64 0, .int .i64 0, .string ⟨#[]⟩])).run Tryd.prog W = .ok (.bool z) W := fun W => (eqlV0 ⟨op, k, nn, s, al, fd⟩ W).trans (by rw [hz])
  replace hz := hide hz
  obtain ⟨b, hb⟩ : ∃ b, b = bareB ⟨op, k, nn, s, al, fd⟩ := ⟨_, rfl⟩
  have ks0 : (op = 1 ∨ op = 2) → shapedL (n + 1) ks = true := fun h => by
    have : kidsN op = 0 := by rcases h with rfl | rfl <;> simp [kidsN]
    have e0 : ks = [] := List.eq_nil_of_length_eq_zero (by have := unhide hm; have := unhide c3; omega)
    rw [e0]; rfl
  replace ks0 := hide ks0
  have hA0 := hide (show bareB ⟨op, k, nn, s, al, fd⟩ = (al.1.toList.isEmpty && fd.1.toList.isEmpty) from rfl)
  have HT := hide (show shapedT n (.mk ⟨op, k, nn, s, al, fd⟩ ks) = ((if op = 1 then b && isB k nn s.1 else if op = 2 then z && nameB al.1 && nameB fd.1 else b && z) && shapedL (n + 1) ks) by
    rw [unhide HS, hb, unhide hz]
    have e : soundB ⟨op, k, nn, s, al, fd⟩ m = (decide (1 ≤ op) && decide (op ≤ 12) && decide (m = kidsN op) && (if op = 1 then bareB ⟨op, k, nn, s, al, fd⟩ && isB k nn s.1 else if op = 2 then zeroB ⟨op, k, nn, s, al, fd⟩ && nameB al.1 && nameB fd.1 else bareB ⟨op, k, nn, s, al, fd⟩ && zeroB ⟨op, k, nn, s, al, fd⟩)) := rfl
    rw [e, ← Bool.and_assoc (decide (n ≤ 5)), c12, Bool.true_and])
  clear c12 HS c1 c2 hz
  replace hb := hide hb
  replace c3 := hide c3
  have c4' : (n : Int) + 1 ≤ 6 := by omega
  have hl1 := al.2
  have hl2 := fd.2
  go_upto_region 3 with fail
  go_cut [5, 6] (fun x y wx => x = .bool z ∧ y = .bool b ∧ ∃ d, wx = W2.drewN d)
  case first =>
    clear HT ks0 hK
    cases hA : al.1.toList.isEmpty
    · obtain rfl : b = false := by rw [unhide hb, unhide hA0, hA]; rfl
      go_quiet (fail)
      go_wp2
      go_meet
      case rel => exact ⟨rfl, rfl, _, rfl⟩
    · cases hF : fd.1.toList.isEmpty
      · obtain rfl : b = false := by rw [unhide hb, unhide hA0, hA, hF]; rfl
        go_quiet (fail)
        go_wp2
        go_meet
        case rel => exact ⟨rfl, rfl, _, rfl⟩
      · obtain rfl : b = true := by rw [unhide hb, unhide hA0, hA, hF]; rfl
        go_quiet (fail)
        go_wp2
        go_meet
        case rel => exact ⟨rfl, rfl, _, rfl⟩
  case rest =>
  obtain ⟨rfl, rfl, nq, rfl⟩ := hcut
  obtain ⟨W3, hW3⟩ : ∃ W3, W3 = W2.drewN nq := ⟨_, rfl⟩
  have bW3 : Below w.heap.size w W3 := by rw [hW3]; exact Box.bd bW2
  have xb3 : Box W3 w.heap.size 26 (Dat.cs ⟨op, k, nn, s, al, fd⟩ a m cap) := by rw [hW3]; exact xb2.drewN _
  rw [← hW3]
  clear hW3 h0 h1 h2 h3 h4 h5 h6 xb2 bW2 hb hA0 heq
  obtain ⟨h0, h1, h2, h3, h4, h5, h6⟩ := xb3.seven
  simp only at h0 h1 h2 h3 h4 h5 h6
  by_cases o1 : op = 1
  · subst o1
    have H := hide (show shapedT n (.mk ⟨1, k, nn, s, al, fd⟩ ks) = (isB k nn s.1 && b) by rw [unhide HT, unhide ks0 (.inl rfl)]; simp [Bool.and_comm])
    clear HT ks0
    obtain ⟨q, hq⟩ : ∃ q, q = isB k nn s.1 := ⟨_, rfl⟩
    have cI : ∀ W, Calls Tryd.prog 22 #[.agg #[.int .i64 k, .int .i64 nn, .string s.1]] W fun e w' => e = .returned (.bool q) ∧ Below W.heap.size W w' := fun W => by rw [hq]; exact refIs_c k nn s.1 W hs'
    rw [← hq] at H
    clear hq
    cases q <;> cases b
    all_goals
      go_wp2_with (go_at_call 22; refine (cI _).mono ?_; rintro e w4 ⟨rfl, hb4⟩)
      go_ret
      exact ⟨by rw [unhide H]; rfl, bW3.trans (hb4.mono bW3.size)⟩
  have o1' : (op == 1) = false := by simp [o1]
  by_cases o2 : op = 2
  · subst o2
    have H := hide (show shapedT n (.mk ⟨2, k, nn, s, al, fd⟩ ks) = ((z && nameB al.1) && nameB fd.1) by rw [unhide HT, unhide ks0 (.inr rfl)]; simp)
    clear HT ks0 o1
    obtain ⟨q, hq⟩ : ∃ q, q = nameB al.1 := ⟨_, rfl⟩
    have cN : ∀ W, Calls Tryd.prog 30 #[.string al.1] W fun e w' => e = .returned (.bool q) ∧ w' = W := fun W => by rw [hq]; exact refName_c al.1 W hl1
    obtain ⟨q2, hq2⟩ : ∃ q2, q2 = nameB fd.1 := ⟨_, rfl⟩
    have cN2 : ∀ W, Calls Tryd.prog 30 #[.string fd.1] W fun e w' => e = .returned (.bool q2) ∧ w' = W := fun W => by rw [hq2]; exact refName_c fd.1 W hl2
    rw [← hq, ← hq2] at H
    clear hq hq2
    cases z
    · go_wp2_with fail
      go_ret
      exact ⟨by rw [unhide H]; rfl, bW3⟩
    cases q
    · go_wp2_with fail
      refine (cN _).mono ?_
      rintro e w4 ⟨rfl, rfl⟩
      go_wp2_with fail
      go_ret
      exact ⟨by rw [unhide H]; rfl, bW3⟩
    go_wp2_with fail
    refine (cN _).mono ?_
    rintro e w4 ⟨rfl, rfl⟩
    go_wp2_with fail
    refine (cN2 _).mono ?_
    rintro e w4 ⟨rfl, rfl⟩
    go_wp2_with fail
    go_ret
    exact ⟨by rw [unhide H]; simp, bW3⟩
  have o2' : (op == 2) = false := by simp [o2]
  have H := hide (show shapedT n (.mk ⟨op, k, nn, s, al, fd⟩ ks) = ((z && b) && shapedL (n + 1) ks) by rw [unhide HT]; simp [o1, o2, Bool.and_comm])
  clear HT ks0 o1 o2
  have hlen' : (m : Int) ≤ 1099511627776 := by omega
  go_upto_region 9 with fail
  go_wp2_with fail
  go_loopw [7] (fun i wr => ∃ j : Nat, j ≤ m ∧ i = .int .i64 j ∧ Hid (shapedL (n + 1) (ks.take j) = true) ∧ Below W3.heap.size W3 wr) (fun i _ => m - (intOf i).toNat)
  case atStart => exact ⟨0, Nat.zero_le _, rfl, hide (by simp [shapedL]), Below.refl _ _⟩
  case round =>
    obtain ⟨j, hj, rfl, hp, hB⟩ := hrel
    clear h0 h1 h2 h3 h4 h5 h6
    have xr := xb3.on hB xb3.lt
    obtain ⟨h0, h1, h2, h3, h4, h5, h6⟩ := xr.seven
    clear h0 h1 h2 h3 h4 h5
    have br : Below w.heap.size w wr := bW3.trans (hB.mono bW3.size)
    by_cases hlt : j < m
    · rcases unhide hK with h | ⟨bb, off, f, ea, hbn, hcs, hV⟩
      · exfalso; have := unhide hm; rw [h] at this; simp at this; omega
      have hjk : j < ks.length := by have := unhide hm; omega
      obtain ⟨t, ht⟩ : ∃ t, ks[j]? = some t := ⟨_, List.getElem?_eq_getElem hjk⟩
      have htk := hide (show shapedL (n + 1) (ks.take (j + 1)) = shapedT (n + 1) t by
        have e1 : ks.take (j + 1) = ks.take j ++ [t] := by rw [List.take_succ_eq_append_getElem hjk]; simp [List.getElem?_eq_getElem hjk] at ht; rw [ht]
        rw [e1, shapedL_append, unhide hp]; simp [shapedL])
      have sr : Sm n₀ W0 wr := hs.trans (Sm.of_below (br.mono hn))
      have hcs' : ∀ i v, (t.dat.cs (f j).1 t.kids.length (f j).2)[i]? = some v → wr.cell? ⟨bb, off + j * 7 + i, none⟩ = some v := fun i v hv => sr.cell hbn (hcs j t ht i v hv)
      replace hV := hV j t ht
      clear hcs hK ht hjk
      obtain ⟨dt, kt⟩ := t
      generalize f j = fk at hcs' hV
      obtain ⟨at', ct⟩ := fk
      simp only [Tree.dat, Tree.kids] at hcs' hV
      have hd0 := hcs' 0 _ rfl
      have hd1 := hcs' 1 _ rfl
      have hd2 := hcs' 2 _ rfl
      have hd3 := hcs' 3 _ rfl
      have hd4 := hcs' 4 _ rfl
      have hd5 := hcs' 5 _ rfl
      have hd6 := hcs' 6 _ rfl
      rw [Nat.add_zero] at hd0
      clear hcs'
      subst ea
      have hwr : n₀ ≤ wr.heap.size := Nat.le_trans hn br.size
      have cV := hV dt ct (n + 1) wr (by omega) sr hwr
      rw [show ((n + 1 : Nat) : Int) = (n : Int) + 1 by omega] at cV
      replace cV := hide cV
      have hkl : (j : Int) < m := by omega
      clear hV
      go_wp2_with fail
      refine (unhide cV).mono ?_
      rintro e W5 ⟨rfl, hb5⟩
      clear cV hd0 hd1 hd2 hd3 hd4 hd5 hd6
      have hE := hB.trans (hb5.mono hB.size)
      cases hst : shapedT (n + 1) (.mk dt kt)
      · have hno := hide (show shapedL (n + 1) ks = false from shapedL_no _ ks (j + 1) (by rw [unhide htk, hst]))
        clear htk
        go_wp2_with fail
        go_ret
        exact ⟨by rw [unhide H, unhide hno]; simp, bW3.trans (hE.mono bW3.size)⟩
      · rw [hst] at htk
        go_wp2_with fail
        go_roundw
        case rel => exact ⟨j + 1, by omega, by go_num, htk, hE⟩
        case measure => simp [intOf]; omega
    · have hke : shapedL (n + 1) ks = true := by
        have := unhide hp
        rwa [List.take_of_length_le (by have := unhide hm; omega)] at this
      have hn' : ¬ (j : Int) < m := by omega
      have H' := hide (show shapedT n (.mk ⟨op, k, nn, s, al, fd⟩ ks) = (z && b) by rw [unhide H, hke, Bool.and_true])
      clear hke H
      cases z <;> cases b
      all_goals
        go_wp2_with fail
        go_ret
        exact ⟨by rw [unhide H']; rfl, br⟩

theorem shaped_C (n₀ : Nat) (W0 : World) (a : Option Addr) (ks : List Tree) (hL : Lies n₀ W0 a ks) : ShapedC n₀ W0 a ks := by
  induction hL with
  | nil a => exact shaped_step n₀ W0 a [] (by simp) (.inl rfl)
  | row b off ks f hl hb hc hk ih => exact shaped_step n₀ W0 _ ks hl (.inr ⟨b, off, f, rfl, hb, hc, ih⟩)

theorem shaped_c (d : Dat) (cap : Nat) (a : Option Addr) (ks : List Tree) (W : World) (hL : Lies W.heap.size W a ks) :
    Calls Tryd.prog 29 #[d.v a ks.length cap, .int .i64 1] W fun r W' => r = .returned (.bool (shapedT 1 (.mk d ks))) ∧ Below W.heap.size W W' :=
  shaped_C W.heap.size W a ks hL d cap 1 W (by omega) (Sm.refl _ _) (Nat.le_refl _)

end Go.Proofs.YtfofpenajkaalaaDoor
