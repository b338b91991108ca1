/-
  ExprShapes' walk: for every two bytes and two flags it answers true; nothing that lay is turned.
-/
import Derived.Test.YtbmgfibadpffgaaDeepT
namespace Go.Proofs.Ytbmgfibadpffgaa
open Go.RowKit Go.Shelf

def litNd (j : Nat) : Nd := ⟨litD j, none, 0, 0⟩
def litNds (k : Nat) : List Nd := (List.range k).map litNd
def litTs (k : Nat) : List Tree := (List.range k).map fun j : Nat => litT (j : Int)
theorem litNds_succ (k : Nat) : litNds (k + 1) = litNds k ++ [litNd k] := by simp [litNds, List.range_succ]
def shD (o : Nat) (name val : Bool) : Dat := ⟨o, if val then 1 else 0, if val then 1 else 0, tx0, if name then tx1 97 else tx0, if name then tx1 120 else tx0⟩
def goodS (o k : Nat) (name val : Bool) : Bool := decide (1 ≤ o) && decide (o ≤ 12) && decide (k = kidsN o) && (name == decide (o = 2)) && (val == decide (o = 1))
theorem shapes_fact : ∀ o < 14, ∀ k < 4, ∀ name val : Bool, isT (.mk (shD o name val) (litTs k)) = goodS o k name val := by decide +kernel

theorem goodS_1 {o k : Nat} {name val : Bool} (h : ¬ 1 ≤ o) : goodS o k name val = false := by simp [goodS, h]
theorem goodS_2 {o k : Nat} {name val : Bool} (h : ¬ o ≤ 12) : goodS o k name val = false := by simp [goodS, h]
theorem goodS_3 {o k : Nat} {name val : Bool} (h : ¬ k = kidsN o) : goodS o k name val = false := by simp [goodS, h]
theorem goodS_4 {o k : Nat} {name val : Bool} (h : (name == decide (o = 2)) = false) : goodS o k name val = false := by simp [goodS, h]
theorem goodS_5 {o k : Nat} {name val : Bool} (h : (val == decide (o = 1)) = false) : goodS o k name val = false := by simp [goodS, h]
theorem goodS_y {o k : Nat} {name val : Bool} (h1 : 1 ≤ o) (h2 : o ≤ 12) (h3 : k = kidsN o) (h4 : (name == decide (o = 2)) = true) (h5 : (val == decide (o = 1)) = true) : goodS o k name val = true := by
  simp only [goodS, decide_eq_true h1, decide_eq_true h2, decide_eq_true h3, h4, h5, Bool.and_self]

theorem lies_lits {W : World} {base : Nat} {v : Value} {k : Nat} (h : W.ownsRow base 27 7 v k (newsN (litNds k))) (h4 : k ≤ 4) : ∃ a c, v = .slice a (litTs k).length c ∧ Lies W.heap.size W a (litTs k) := by
  have hl : (litTs k).length = k := by simp [litTs]
  rw [hl]
  rcases Nat.eq_zero_or_pos k with rfl | hk
  · obtain ⟨a, c, e⟩ := owns_slice h
    exact ⟨a, c, e, .nil a⟩
  · obtain ⟨g, c, rfl, _, hg⟩ := owns_form h hk
    refine ⟨_, c, rfl, lies_of_nds (litNds k) (by simp [litNds, litTs]) (by rw [hl]; omega) hg (fun j x hx i u hu => ?_) (fun j x t hx ht => ?_)⟩
    · have h7 : i < 7 := by have := (Array.getElem?_eq_some_iff.1 hu).1; simpa using this
      have hj : j < k := by have := (List.getElem?_eq_some_iff.1 hx).1; simpa [litNds] using this
      rw [Nat.zero_add, h.cellAt (j * 7 + i) (by omega), newsN_at _ j x hx i h7]; exact hu
    · simp only [litNds, litTs, List.getElem?_map, Option.map_eq_some_iff] at hx ht
      obtain ⟨p, hp, rfl⟩ := hx
      obtain ⟨q, hq, rfl⟩ := ht
      rw [hp] at hq; cases hq
      exact ⟨rfl, rfl, .nil _⟩

set_option maxRecDepth 100000 in
set_option maxHeartbeats 8000000 in
theorem shapes_walk (n0 n1 : Int) (name val : Bool) (h0 : 0 ≤ n0) (h1 : n0 ≤ 255) (h2 : 0 ≤ n1) (h3 : n1 ≤ 255) (w : World) : Calls Try.prog 5 #[.int .u8 n0, .int .u8 n1, .bool name, .bool val] w fun e w' => e = .returned (.bool true) ∧ Below w.heap.size w w' := by
  have cK := hide (known_c w)
  obtain ⟨o, ho14, ho⟩ : ∃ m : Nat, m < 14 ∧ n0 % 14 = (m : Int) := ⟨(n0 % 14).toNat, by omega, by omega⟩
  obtain ⟨k, hk4, hk⟩ : ∃ m : Nat, m < 4 ∧ n1 % 4 = (m : Int) := ⟨(n1 % 4).toNat, by omega, by omega⟩
  obtain ⟨i0, hi0, hz0, hz1, hz2⟩ := info_parts infoX
  go_enter Try.func5, Try.ntmps5
  go_wp2_with fail
  refine (unhide cK).mono ?_
  rintro r w1 ⟨rfl, hb1⟩
  clear cK
  obtain ⟨Bx, eBx⟩ : ∃ Bx, Bx = w1.heap.size := ⟨_, rfl⟩
  obtain ⟨w3, hw3⟩ : ∃ w3, w3 = w1.alloc (.cells #[.int .i64 o, .int .i64 0, .int .i64 0, .string ⟨#[]⟩, .string ⟨#[]⟩, .string ⟨#[]⟩, .slice none 0 0] 27) := ⟨_, rfl⟩
  have b3 : Below w1.heap.size w1 w3 := by rw [hw3]; exact (Below.refl _ _).alloc (Nat.le_refl _) _
  have x3 : Box w3 Bx 27 #[.int .i64 o, .int .i64 0, .int .i64 0, .string ⟨#[]⟩, .string ⟨#[]⟩, .string ⟨#[]⟩, .slice none 0 0] := by rw [hw3, eBx]; exact Box.new _ _ _
  have bw3 : Below w.heap.size w w3 := hb1.trans (b3.mono hb1.size)
  have hBx : w.heap.size ≤ Bx := by rw [eBx]; exact hb1.size
  go_upto_region 5 with fail
  rw [ho, ← hw3, ← eBx]
  clear hw3 eBx b3 hb1 ho
  go_wp2_with fail
  rw [hk]
  clear hk
  go_loopw [12] (fun iv wr => ∃ i : Nat, i ≤ k ∧ iv = .int .i64 i ∧ (∃ v, Box wr Bx 27 #[.int .i64 o, .int .i64 0, .int .i64 0, .string ⟨#[]⟩, .string ⟨#[]⟩, .string ⟨#[]⟩, v] ∧ Hid (wr.ownsRow (Bx + 1) 27 7 v i (newsN (litNds i)))) ∧ Below w.heap.size w wr) (fun i _ => k - (intOf i).toNat)
  case atStart => exact ⟨0, Nat.zero_le _, rfl, ⟨_, x3, hide (World.ownsRow_nil _ _ _ _)⟩, bw3⟩
  case round =>
    obtain ⟨i, hik, rfl, ⟨v, hx, hor⟩, hb⟩ := hrel
    obtain ⟨av, cv, rfl⟩ := owns_slice (unhide hor)
    by_cases hlt : i < k
    · have hlt' : (i : Int) < k := by omega
      have hmx : Try.prog.follows .mixedOrders = true := by kernel_rfl
      go_upto_region 9 with fail
      obtain ⟨V, hV'⟩ : ∃ V, V = ({ heap := wr.heap, tape := wr.tape, drawn := wr.drawn + 1, os := wr.os, output := wr.output } : World) := ⟨_, rfl⟩
      have bV : Below wr.heap.size wr V := by rw [hV']; exact (Below.refl _ _).drew
      have cD : Box V Bx 27 #[.int .i64 o, .int .i64 0, .int .i64 0, .string ⟨#[]⟩, .string ⟨#[]⟩, .string ⟨#[]⟩, .slice av i cv] := hx.on bV hx.lt
      refine wp_region_any hmx (wpAny_of_Z (z := 7) (C := fun w' => Box w' Bx 27 #[.int .i64 o, .int .i64 0, .int .i64 0, .string ⟨#[]⟩, .string ⟨#[]⟩, .string ⟨#[]⟩, .slice av i cv]) _ _ _ _ ?_)
      rw [← hV']
      clear hV'
      refine wpAnyZ_reads 0 cD (by kernel_rfl) (by kernel_rfl) (by kernel_rfl) (by kernel_rfl) (fun d _ _ _ _ h => by cases d <;> exact h) (fun oi ho K hK => ?_)
      simp only [List.getElem?_toArray, List.getElem?_cons_zero, Option.some.injEq] at ho
      subst ho
      rw [if_pos (by kernel_rfl)]
      refine ⟨.pointer (some ⟨Bx, 6, none⟩), fun w' hw' => ?_, hK _ ?_⟩
      · obtain ⟨hp0, hp1, hp2, hp3, hp4, hp5, hp6⟩ := hw'.seven
        go_simp
      clear hK K
      refine wpAnyZ_reads 1 cD (by kernel_rfl) (by kernel_rfl) (by kernel_rfl) (by kernel_rfl) (fun d _ _ _ _ h => by cases d <;> exact h) (fun oi ho K hK => ?_)
      simp only [List.getElem?_toArray, List.getElem?_cons_succ, List.getElem?_cons_zero, Option.some.injEq] at ho
      subst ho
      rw [if_pos (by kernel_rfl)]
      refine ⟨.slice av i cv, fun w' hw' => ?_, hK _ ?_⟩
      · obtain ⟨hp0, hp1, hp2, hp3, hp4, hp5, hp6⟩ := hw'.seven
        go_simp
      clear hK K
      refine wpAnyZ_reads 2 cD (by kernel_rfl) (by kernel_rfl) (by kernel_rfl) (by kernel_rfl) (fun d _ _ _ _ h => by cases d <;> exact h) (fun oi ho K hK => ?_)
      simp only [List.getElem?_toArray, List.getElem?_cons_succ, List.getElem?_cons_zero, Option.some.injEq] at ho
      subst ho
      rw [if_pos (by kernel_rfl)]
      refine ⟨.int .i64 i, fun w' hw' => ?_, hK _ ?_⟩
      · obtain ⟨hp0, hp1, hp2, hp3, hp4, hp5, hp6⟩ := hw'.seven
        go_simp
      clear hK K
      refine wpAnyZ_calls 3 (by kernel_rfl) (fun oi ho K hK => ?_)
      simp only [List.getElem?_toArray, List.getElem?_cons_succ, List.getElem?_cons_zero, Option.some.injEq] at ho
      subst ho
      go_simp
      refine (lit_c i V).mono ?_
      rintro r u1 ⟨rfl, hb1⟩
      go_simp
      have c1 := cD.on hb1 cD.lt
      refine hK _ _ (.inr c1) ?_
      clear hK K
      refine wpAnyZ_calls 4 (by kernel_rfl) (fun oi ho K hK => ?_)
      simp only [List.getElem?_toArray, List.getElem?_cons_succ, List.getElem?_cons_zero, Option.some.injEq] at ho
      subst ho
      simp only [litD]
      go_simp
      have b2 : Below u1.heap.size u1 (u1.alloc (.cells (litNd i).cs 27)) := (Below.refl _ _).alloc (Nat.le_refl _) _
      refine hK _ _ (.inr (c1.on b2 c1.lt)) ?_
      clear hK K
      obtain ⟨u, eu⟩ : ∃ u, u = u1.alloc (.cells (litNd i).cs 27) := ⟨_, rfl⟩
      have hnb : Box u u1.heap.size 27 (litNd i).cs := by rw [eu]; exact Box.new _ _ _
      have bu : Below V.heap.size V u := by rw [eu]; exact hb1.trans (b2.mono hb1.size)
      have cU : Box u Bx 27 #[.int .i64 o, .int .i64 0, .int .i64 0, .string ⟨#[]⟩, .string ⟨#[]⟩, .string ⟨#[]⟩, .slice av i cv] := cD.on bu cD.lt
      have hoU := hide (owns_below (owns_below (unhide hor) bV) bu)
      dsimp only [litNd, Nd.cs, litD, Dat.cs] at eu
      rw [← eu]
      clear eu b2 c1
      refine wpAnyZ_calls 5 (by kernel_rfl) (fun oi ho K hK => ?_)
      simp only [List.getElem?_toArray, List.getElem?_cons_succ, List.getElem?_cons_zero, Option.some.injEq] at ho
      subst ho
      refine step_own u (by rfl) (.tmp 31) (.tmp 34) 25 (by rfl) (Bx + 1) 27 i0 zeroX 7 96 Try.underlying25 hi0 hz0 hz1 hz2 (by rfl) (by decide) (.slice av i cv) i (newsN (litNds i)) ?q1 (unhide hoU) ⟨u1.heap.size, 0, none⟩ 1 1 (litNd i).cs.toList ?q2 (by rfl) (news_box hnb) (fun q hq => newsN_one [litNd i] q (by simpa [newsN] using hq)) (by unfold maxLen; omega) (by omega) (by have := cU.lt; omega) ?_
      case q1 => go_simp
      case q2 => go_simp
      intro v5 u5 ho5 hg5 hw5
      rw [← newsN_snoc, ← litNds_succ] at ho5
      have c5 : Box u5 Bx 27 #[.int .i64 o, .int .i64 0, .int .i64 0, .string ⟨#[]⟩, .string ⟨#[]⟩, .string ⟨#[]⟩, .slice av i cv] := (hg5.block _ cU.lt (fun e => by have := ((unhide hor).lt _ e.symm).1; omega)).trans cU
      have b5 : Below w.heap.size w u5 := (hb.trans ((bV.trans (bu.mono bV.size)).mono hb.size)).grown hg5 (by have := bV.size; have := bu.size; have := hb.size; omega) (fun q e => by have := ((unhide hor).lt q e).1; omega)
      obtain ⟨a5, c5', rfl⟩ := owns_slice ho5
      replace ho5 := hide ho5
      refine hK _ _ (.inr c5) ?_
      clear hK K
      refine wpAnyZ_calls 6 (by kernel_rfl) (fun oi ho K hK => ?_)
      simp only [List.getElem?_toArray, List.getElem?_cons_succ, List.getElem?_cons_zero, Option.some.injEq] at ho
      subst ho
      go_simp
      refine hK _ _ (.inr c5) ?_
      clear hK K
      obtain ⟨hc0, hc1, hc2, hc3, hc4, hc5, hc6⟩ := c5.seven
      have hf6 := c5.frz 6
      have x6 : Box (u5.setCell ⟨Bx, 6, none⟩ (.slice a5 (i + 1) c5')) Bx 27 #[.int .i64 o, .int .i64 0, .int .i64 0, .string ⟨#[]⟩, .string ⟨#[]⟩, .string ⟨#[]⟩, .slice a5 (i + 1) c5'] := c5.set 6 _
      have o6 := hide (owns_set (unhide ho5) ⟨Bx, 6, none⟩ (.slice a5 (i + 1) c5') (by simp))
      have b6 := b5.setCell (p := ⟨Bx, 6, none⟩) hBx (.slice a5 (i + 1) c5')
      refine wpAnyZ_calls 7 (by kernel_rfl) (fun oi ho K hK => ?_)
      simp only [List.getElem?_toArray, List.getElem?_cons_succ, List.getElem?_cons_zero, Option.some.injEq] at ho
      subst ho
      go_simp
      refine hK _ _ (.inl rfl) ?_
      clear hK K hc0 hc1 hc2 hc3 hc4 hc5 hc6 hf6
      refine wpAnyZ_done (by kernel_rfl) ?_ _
      generalize u5.setCell ⟨Bx, 6, none⟩ (.slice a5 (i + 1) c5') = u6 at x6 o6 b6 ⊢
      go_wp2_with fail
      go_roundw
      case rel => exact ⟨i + 1, by omega, by go_num, ⟨_, x6, o6⟩, b6⟩
      case measure => simp [intOf]; omega
    · have hie : i = k := by omega
      subst hie
      clear hlt
      have htl : (litTs i).length = i := by simp [litTs]
      cases name
      · cases val
        · obtain ⟨W9, hW9⟩ : ∃ W9, W9 = wr := ⟨_, rfl⟩
          have x9 : Box W9 Bx 27 ((shD o false false).cs av (litTs i).length cv) := by rw [hW9, htl]; exact hx
          have o9 : W9.ownsRow (Bx + 1) 27 7 (.slice av i cv) i (newsN (litNds i)) := by rw [hW9]; exact (unhide hor)
          have b9 : Below w.heap.size w W9 := by rw [hW9]; exact hb
          obtain ⟨a9, c9, e9, hL9⟩ := lies_lits o9 (by omega)
          simp only [Value.slice.injEq] at e9
          obtain ⟨rfl, -, rfl⟩ := e9
          have cI := hide (isT_c (shD o false false) av (litTs i) cv W9 hL9)
          rw [htl] at cI x9
          have cKi := hide (kids_c o W9)
          obtain ⟨hc0, hc1, hc2, hc3, hc4, hc5, hc6⟩ := hx.seven
          have hf1 := hx.frz 1
          have hf2 := hx.frz 2
          have hf3 := hx.frz 3
          have hf4 := hx.frz 4
          have hf5 := hx.frz 5
          replace hW9 := hide hW9
          replace o9 := hide o9
          replace hL9 := hide hL9
          replace htl := hide htl
          go_upto_region 14 with fail
          obtain rfl : W9 = wr := unhide hW9
          clear hW9 hc0 hc1 hc2 hc3 hc4 hc5 hc6 hf1 hf2 hf3 hf4 hf5
          obtain ⟨hc0, hc1, hc2, hc3, hc4, hc5, hc6⟩ := x9.seven
          simp only [shD, Bool.false_eq_true, if_false] at hc0 hc1 hc2 hc3 hc4 hc5 hc6
          by_cases c1 : 1 ≤ o
          case neg =>
            have e1 : ¬ (1 : Int) ≤ o := by omega
            have FI := hide ((shapes_fact o ho14 i hk4 false false).trans (goodS_1 c1 : goodS o i false false = false))
            replace c1 := hide c1
            go_wp2_with fail
            refine (unhide cI).mono ?_
            rintro r u1 ⟨rfl, hb1⟩
            rw [unhide FI]
            go_wp2_with fail
            go_ret
            exact ⟨rfl, b9.trans (hb1.mono b9.size)⟩
          have e1 : (1 : Int) ≤ o := by omega
          by_cases c2 : o ≤ 12
          case neg =>
            have e2 : ¬ (o : Int) ≤ 12 := by omega
            have FI := hide ((shapes_fact o ho14 i hk4 false false).trans (goodS_2 c2 : goodS o i false false = false))
            replace c1 := hide c1
            replace c2 := hide c2
            go_wp2_with fail
            refine (unhide cI).mono ?_
            rintro r u1 ⟨rfl, hb1⟩
            rw [unhide FI]
            go_wp2_with fail
            go_ret
            exact ⟨rfl, b9.trans (hb1.mono b9.size)⟩
          have e2 : (o : Int) ≤ 12 := by omega
          by_cases c3 : i = kidsN o
          case neg =>
            have e3 : ((i : Int) == (kidsN o : Int)) = false := by simp; omega
            have FI := hide ((shapes_fact o ho14 i hk4 false false).trans (goodS_3 c3 : goodS o i false false = false))
            replace c1 := hide c1
            replace c2 := hide c2
            replace c3 := hide c3
            go_wp2_with fail
            refine (unhide cKi).mono ?_
            rintro r _ ⟨rfl, rfl⟩
            go_wp2_with fail
            refine (unhide cI).mono ?_
            rintro r u1 ⟨rfl, hb1⟩
            rw [unhide FI]
            go_wp2_with fail
            go_ret
            exact ⟨rfl, b9.trans (hb1.mono b9.size)⟩
          have e3 : ((i : Int) == (kidsN o : Int)) = true := by simp; omega
          by_cases c4 : o = 2
          · have e4 : ((o : Int) == 2) = true := by simp; omega
            have e5 : ((o : Int) == 1) = false := by simp; omega
            have FI := hide ((shapes_fact o ho14 i hk4 false false).trans (goodS_4 (by simp [c4]) : goodS o i false false = false))
            replace c1 := hide c1
            replace c2 := hide c2
            replace c3 := hide c3
            replace c4 := hide c4
            go_wp2_with fail
            refine (unhide cKi).mono ?_
            rintro r _ ⟨rfl, rfl⟩
            go_wp2_with fail
            refine (unhide cI).mono ?_
            rintro r u1 ⟨rfl, hb1⟩
            rw [unhide FI]
            go_wp2_with fail
            go_ret
            exact ⟨rfl, b9.trans (hb1.mono b9.size)⟩
          by_cases c5 : o = 1
          · have e4 : ((o : Int) == 2) = false := by simp; omega
            have e5 : ((o : Int) == 1) = true := by simp; omega
            have FI := hide ((shapes_fact o ho14 i hk4 false false).trans (goodS_5 (by simp [c5]) : goodS o i false false = false))
            replace c1 := hide c1
            replace c2 := hide c2
            replace c3 := hide c3
            replace c4 := hide c4
            replace c5 := hide c5
            go_wp2_with fail
            refine (unhide cKi).mono ?_
            rintro r _ ⟨rfl, rfl⟩
            go_wp2_with fail
            refine (unhide cI).mono ?_
            rintro r u1 ⟨rfl, hb1⟩
            rw [unhide FI]
            go_wp2_with fail
            go_ret
            exact ⟨rfl, b9.trans (hb1.mono b9.size)⟩
          · have e4 : ((o : Int) == 2) = false := by simp; omega
            have e5 : ((o : Int) == 1) = false := by simp; omega
            have FI := hide ((shapes_fact o ho14 i hk4 false false).trans (goodS_y c1 c2 c3 (by simp [c4]) (by simp [c5]) : goodS o i false false = true))
            replace c1 := hide c1
            replace c2 := hide c2
            replace c3 := hide c3
            replace c4 := hide c4
            replace c5 := hide c5
            go_wp2_with fail
            refine (unhide cKi).mono ?_
            rintro r _ ⟨rfl, rfl⟩
            go_wp2_with fail
            refine (unhide cI).mono ?_
            rintro r u1 ⟨rfl, hb1⟩
            rw [unhide FI]
            go_wp2_with fail
            go_ret
            exact ⟨rfl, b9.trans (hb1.mono b9.size)⟩
        · obtain ⟨W9, hW9⟩ : ∃ W9, W9 = (((wr.setCell ⟨Bx, 1, none⟩ (.int .i64 1)).setCell ⟨Bx, 2, none⟩ (.int .i64 1)).setCell ⟨Bx, 3, none⟩ (.string ⟨#[]⟩)) := ⟨_, rfl⟩
          have x9 : Box W9 Bx 27 ((shD o false true).cs av (litTs i).length cv) := by rw [hW9, htl]; exact (((hx.set 1 (.int .i64 1)).set 2 (.int .i64 1)).set 3 (.string ⟨#[]⟩))
          have o9 : W9.ownsRow (Bx + 1) 27 7 (.slice av i cv) i (newsN (litNds i)) := by rw [hW9]; exact (owns_set (owns_set (owns_set (unhide hor) ⟨Bx, 1, none⟩ (.int .i64 1) (by simp)) ⟨Bx, 2, none⟩ (.int .i64 1) (by simp)) ⟨Bx, 3, none⟩ (.string ⟨#[]⟩) (by simp))
          have b9 : Below w.heap.size w W9 := by rw [hW9]; exact (((hb.setCell (p := ⟨Bx, 1, none⟩) hBx (.int .i64 1)).setCell (p := ⟨Bx, 2, none⟩) hBx (.int .i64 1)).setCell (p := ⟨Bx, 3, none⟩) hBx (.string ⟨#[]⟩))
          obtain ⟨a9, c9, e9, hL9⟩ := lies_lits o9 (by omega)
          simp only [Value.slice.injEq] at e9
          obtain ⟨rfl, -, rfl⟩ := e9
          have cI := hide (isT_c (shD o false true) av (litTs i) cv W9 hL9)
          rw [htl] at cI x9
          have cKi := hide (kids_c o W9)
          obtain ⟨hc0, hc1, hc2, hc3, hc4, hc5, hc6⟩ := hx.seven
          have hf1 := hx.frz 1
          have hf2 := hx.frz 2
          have hf3 := hx.frz 3
          have hf4 := hx.frz 4
          have hf5 := hx.frz 5
          replace hW9 := hide hW9
          replace o9 := hide o9
          replace hL9 := hide hL9
          replace htl := hide htl
          go_upto_region 14 with fail
          rw [← unhide hW9]
          clear hW9 hc0 hc1 hc2 hc3 hc4 hc5 hc6 hf1 hf2 hf3 hf4 hf5
          obtain ⟨hc0, hc1, hc2, hc3, hc4, hc5, hc6⟩ := x9.seven
          simp only [shD, Bool.false_eq_true, if_false, if_true] at hc0 hc1 hc2 hc3 hc4 hc5 hc6
          by_cases c1 : 1 ≤ o
          case neg =>
            have e1 : ¬ (1 : Int) ≤ o := by omega
            have FI := hide ((shapes_fact o ho14 i hk4 false true).trans (goodS_1 c1 : goodS o i false true = false))
            replace c1 := hide c1
            go_wp2_with fail
            refine (unhide cI).mono ?_
            rintro r u1 ⟨rfl, hb1⟩
            rw [unhide FI]
            go_wp2_with fail
            go_ret
            exact ⟨rfl, b9.trans (hb1.mono b9.size)⟩
          have e1 : (1 : Int) ≤ o := by omega
          by_cases c2 : o ≤ 12
          case neg =>
            have e2 : ¬ (o : Int) ≤ 12 := by omega
            have FI := hide ((shapes_fact o ho14 i hk4 false true).trans (goodS_2 c2 : goodS o i false true = false))
            replace c1 := hide c1
            replace c2 := hide c2
            go_wp2_with fail
            refine (unhide cI).mono ?_
            rintro r u1 ⟨rfl, hb1⟩
            rw [unhide FI]
            go_wp2_with fail
            go_ret
            exact ⟨rfl, b9.trans (hb1.mono b9.size)⟩
          have e2 : (o : Int) ≤ 12 := by omega
          by_cases c3 : i = kidsN o
          case neg =>
            have e3 : ((i : Int) == (kidsN o : Int)) = false := by simp; omega
            have FI := hide ((shapes_fact o ho14 i hk4 false true).trans (goodS_3 c3 : goodS o i false true = false))
            replace c1 := hide c1
            replace c2 := hide c2
            replace c3 := hide c3
            go_wp2_with fail
            refine (unhide cKi).mono ?_
            rintro r _ ⟨rfl, rfl⟩
            go_wp2_with fail
            refine (unhide cI).mono ?_
            rintro r u1 ⟨rfl, hb1⟩
            rw [unhide FI]
            go_wp2_with fail
            go_ret
            exact ⟨rfl, b9.trans (hb1.mono b9.size)⟩
          have e3 : ((i : Int) == (kidsN o : Int)) = true := by simp; omega
          by_cases c4 : o = 2
          · have e4 : ((o : Int) == 2) = true := by simp; omega
            have e5 : ((o : Int) == 1) = false := by simp; omega
            have FI := hide ((shapes_fact o ho14 i hk4 false true).trans (goodS_4 (by simp [c4]) : goodS o i false true = false))
            replace c1 := hide c1
            replace c2 := hide c2
            replace c3 := hide c3
            replace c4 := hide c4
            go_wp2_with fail
            refine (unhide cKi).mono ?_
            rintro r _ ⟨rfl, rfl⟩
            go_wp2_with fail
            refine (unhide cI).mono ?_
            rintro r u1 ⟨rfl, hb1⟩
            rw [unhide FI]
            go_wp2_with fail
            go_ret
            exact ⟨rfl, b9.trans (hb1.mono b9.size)⟩
          by_cases c5 : o = 1
          · have e4 : ((o : Int) == 2) = false := by simp; omega
            have e5 : ((o : Int) == 1) = true := by simp; omega
            have FI := hide ((shapes_fact o ho14 i hk4 false true).trans (goodS_y c1 c2 c3 (by simp [c4]) (by simp [c5]) : goodS o i false true = true))
            replace c1 := hide c1
            replace c2 := hide c2
            replace c3 := hide c3
            replace c4 := hide c4
            replace c5 := hide c5
            go_wp2_with fail
            refine (unhide cKi).mono ?_
            rintro r _ ⟨rfl, rfl⟩
            go_wp2_with fail
            refine (unhide cI).mono ?_
            rintro r u1 ⟨rfl, hb1⟩
            rw [unhide FI]
            go_wp2_with fail
            go_ret
            exact ⟨rfl, b9.trans (hb1.mono b9.size)⟩
          · have e4 : ((o : Int) == 2) = false := by simp; omega
            have e5 : ((o : Int) == 1) = false := by simp; omega
            have FI := hide ((shapes_fact o ho14 i hk4 false true).trans (goodS_5 (by simp [c5]) : goodS o i false true = false))
            replace c1 := hide c1
            replace c2 := hide c2
            replace c3 := hide c3
            replace c4 := hide c4
            replace c5 := hide c5
            go_wp2_with fail
            refine (unhide cKi).mono ?_
            rintro r _ ⟨rfl, rfl⟩
            go_wp2_with fail
            refine (unhide cI).mono ?_
            rintro r u1 ⟨rfl, hb1⟩
            rw [unhide FI]
            go_wp2_with fail
            go_ret
            exact ⟨rfl, b9.trans (hb1.mono b9.size)⟩
      · cases val
        · obtain ⟨W9, hW9⟩ : ∃ W9, W9 = ((wr.setCell ⟨Bx, 4, none⟩ (.string ⟨#[97]⟩)).setCell ⟨Bx, 5, none⟩ (.string ⟨#[120]⟩)) := ⟨_, rfl⟩
          have x9 : Box W9 Bx 27 ((shD o true false).cs av (litTs i).length cv) := by rw [hW9, htl]; exact ((hx.set 4 (.string ⟨#[97]⟩)).set 5 (.string ⟨#[120]⟩))
          have o9 : W9.ownsRow (Bx + 1) 27 7 (.slice av i cv) i (newsN (litNds i)) := by rw [hW9]; exact (owns_set (owns_set (unhide hor) ⟨Bx, 4, none⟩ (.string ⟨#[97]⟩) (by simp)) ⟨Bx, 5, none⟩ (.string ⟨#[120]⟩) (by simp))
          have b9 : Below w.heap.size w W9 := by rw [hW9]; exact ((hb.setCell (p := ⟨Bx, 4, none⟩) hBx (.string ⟨#[97]⟩)).setCell (p := ⟨Bx, 5, none⟩) hBx (.string ⟨#[120]⟩))
          obtain ⟨a9, c9, e9, hL9⟩ := lies_lits o9 (by omega)
          simp only [Value.slice.injEq] at e9
          obtain ⟨rfl, -, rfl⟩ := e9
          have cI := hide (isT_c (shD o true false) av (litTs i) cv W9 hL9)
          rw [htl] at cI x9
          have cKi := hide (kids_c o W9)
          obtain ⟨hc0, hc1, hc2, hc3, hc4, hc5, hc6⟩ := hx.seven
          have hf1 := hx.frz 1
          have hf2 := hx.frz 2
          have hf3 := hx.frz 3
          have hf4 := hx.frz 4
          have hf5 := hx.frz 5
          replace hW9 := hide hW9
          replace o9 := hide o9
          replace hL9 := hide hL9
          replace htl := hide htl
          go_upto_region 14 with fail
          rw [← unhide hW9]
          clear hW9 hc0 hc1 hc2 hc3 hc4 hc5 hc6 hf1 hf2 hf3 hf4 hf5
          obtain ⟨hc0, hc1, hc2, hc3, hc4, hc5, hc6⟩ := x9.seven
          simp only [shD, Bool.false_eq_true, if_false, if_true] at hc0 hc1 hc2 hc3 hc4 hc5 hc6
          by_cases c1 : 1 ≤ o
          case neg =>
            have e1 : ¬ (1 : Int) ≤ o := by omega
            have FI := hide ((shapes_fact o ho14 i hk4 true false).trans (goodS_1 c1 : goodS o i true false = false))
            replace c1 := hide c1
            go_wp2_with fail
            refine (unhide cI).mono ?_
            rintro r u1 ⟨rfl, hb1⟩
            rw [unhide FI]
            go_wp2_with fail
            go_ret
            exact ⟨rfl, b9.trans (hb1.mono b9.size)⟩
          have e1 : (1 : Int) ≤ o := by omega
          by_cases c2 : o ≤ 12
          case neg =>
            have e2 : ¬ (o : Int) ≤ 12 := by omega
            have FI := hide ((shapes_fact o ho14 i hk4 true false).trans (goodS_2 c2 : goodS o i true false = false))
            replace c1 := hide c1
            replace c2 := hide c2
            go_wp2_with fail
            refine (unhide cI).mono ?_
            rintro r u1 ⟨rfl, hb1⟩
            rw [unhide FI]
            go_wp2_with fail
            go_ret
            exact ⟨rfl, b9.trans (hb1.mono b9.size)⟩
          have e2 : (o : Int) ≤ 12 := by omega
          by_cases c3 : i = kidsN o
          case neg =>
            have e3 : ((i : Int) == (kidsN o : Int)) = false := by simp; omega
            have FI := hide ((shapes_fact o ho14 i hk4 true false).trans (goodS_3 c3 : goodS o i true false = false))
            replace c1 := hide c1
            replace c2 := hide c2
            replace c3 := hide c3
            go_wp2_with fail
            refine (unhide cKi).mono ?_
            rintro r _ ⟨rfl, rfl⟩
            go_wp2_with fail
            refine (unhide cI).mono ?_
            rintro r u1 ⟨rfl, hb1⟩
            rw [unhide FI]
            go_wp2_with fail
            go_ret
            exact ⟨rfl, b9.trans (hb1.mono b9.size)⟩
          have e3 : ((i : Int) == (kidsN o : Int)) = true := by simp; omega
          by_cases c4 : o = 2
          · have e4 : ((o : Int) == 2) = true := by simp; omega
            have e5 : ((o : Int) == 1) = false := by simp; omega
            have FI := hide ((shapes_fact o ho14 i hk4 true false).trans (goodS_y c1 c2 c3 (by simp [c4]) (by simp [c4]) : goodS o i true false = true))
            replace c1 := hide c1
            replace c2 := hide c2
            replace c3 := hide c3
            replace c4 := hide c4
            go_wp2_with fail
            refine (unhide cKi).mono ?_
            rintro r _ ⟨rfl, rfl⟩
            go_wp2_with fail
            refine (unhide cI).mono ?_
            rintro r u1 ⟨rfl, hb1⟩
            rw [unhide FI]
            go_wp2_with fail
            go_ret
            exact ⟨rfl, b9.trans (hb1.mono b9.size)⟩
          by_cases c5 : o = 1
          · have e4 : ((o : Int) == 2) = false := by simp; omega
            have e5 : ((o : Int) == 1) = true := by simp; omega
            have FI := hide ((shapes_fact o ho14 i hk4 true false).trans (goodS_4 (by simp [c4]) : goodS o i true false = false))
            replace c1 := hide c1
            replace c2 := hide c2
            replace c3 := hide c3
            replace c4 := hide c4
            replace c5 := hide c5
            go_wp2_with fail
            refine (unhide cKi).mono ?_
            rintro r _ ⟨rfl, rfl⟩
            go_wp2_with fail
            refine (unhide cI).mono ?_
            rintro r u1 ⟨rfl, hb1⟩
            rw [unhide FI]
            go_wp2_with fail
            go_ret
            exact ⟨rfl, b9.trans (hb1.mono b9.size)⟩
          · have e4 : ((o : Int) == 2) = false := by simp; omega
            have e5 : ((o : Int) == 1) = false := by simp; omega
            have FI := hide ((shapes_fact o ho14 i hk4 true false).trans (goodS_4 (by simp [c4]) : goodS o i true false = false))
            replace c1 := hide c1
            replace c2 := hide c2
            replace c3 := hide c3
            replace c4 := hide c4
            replace c5 := hide c5
            go_wp2_with fail
            refine (unhide cKi).mono ?_
            rintro r _ ⟨rfl, rfl⟩
            go_wp2_with fail
            refine (unhide cI).mono ?_
            rintro r u1 ⟨rfl, hb1⟩
            rw [unhide FI]
            go_wp2_with fail
            go_ret
            exact ⟨rfl, b9.trans (hb1.mono b9.size)⟩
        · obtain ⟨W9, hW9⟩ : ∃ W9, W9 = (((((wr.setCell ⟨Bx, 4, none⟩ (.string ⟨#[97]⟩)).setCell ⟨Bx, 5, none⟩ (.string ⟨#[120]⟩)).setCell ⟨Bx, 1, none⟩ (.int .i64 1)).setCell ⟨Bx, 2, none⟩ (.int .i64 1)).setCell ⟨Bx, 3, none⟩ (.string ⟨#[]⟩)) := ⟨_, rfl⟩
          have x9 : Box W9 Bx 27 ((shD o true true).cs av (litTs i).length cv) := by rw [hW9, htl]; exact (((((hx.set 4 (.string ⟨#[97]⟩)).set 5 (.string ⟨#[120]⟩)).set 1 (.int .i64 1)).set 2 (.int .i64 1)).set 3 (.string ⟨#[]⟩))
          have o9 : W9.ownsRow (Bx + 1) 27 7 (.slice av i cv) i (newsN (litNds i)) := by rw [hW9]; exact (owns_set (owns_set (owns_set (owns_set (owns_set (unhide hor) ⟨Bx, 4, none⟩ (.string ⟨#[97]⟩) (by simp)) ⟨Bx, 5, none⟩ (.string ⟨#[120]⟩) (by simp)) ⟨Bx, 1, none⟩ (.int .i64 1) (by simp)) ⟨Bx, 2, none⟩ (.int .i64 1) (by simp)) ⟨Bx, 3, none⟩ (.string ⟨#[]⟩) (by simp))
          have b9 : Below w.heap.size w W9 := by rw [hW9]; exact (((((hb.setCell (p := ⟨Bx, 4, none⟩) hBx (.string ⟨#[97]⟩)).setCell (p := ⟨Bx, 5, none⟩) hBx (.string ⟨#[120]⟩)).setCell (p := ⟨Bx, 1, none⟩) hBx (.int .i64 1)).setCell (p := ⟨Bx, 2, none⟩) hBx (.int .i64 1)).setCell (p := ⟨Bx, 3, none⟩) hBx (.string ⟨#[]⟩))
          obtain ⟨a9, c9, e9, hL9⟩ := lies_lits o9 (by omega)
          simp only [Value.slice.injEq] at e9
          obtain ⟨rfl, -, rfl⟩ := e9
          have cI := hide (isT_c (shD o true true) av (litTs i) cv W9 hL9)
          rw [htl] at cI x9
          have cKi := hide (kids_c o W9)
          obtain ⟨hc0, hc1, hc2, hc3, hc4, hc5, hc6⟩ := hx.seven
          have hf1 := hx.frz 1
          have hf2 := hx.frz 2
          have hf3 := hx.frz 3
          have hf4 := hx.frz 4
          have hf5 := hx.frz 5
          replace hW9 := hide hW9
          replace o9 := hide o9
          replace hL9 := hide hL9
          replace htl := hide htl
          go_upto_region 14 with fail
          rw [← unhide hW9]
          clear hW9 hc0 hc1 hc2 hc3 hc4 hc5 hc6 hf1 hf2 hf3 hf4 hf5
          obtain ⟨hc0, hc1, hc2, hc3, hc4, hc5, hc6⟩ := x9.seven
          simp only [shD, if_true] at hc0 hc1 hc2 hc3 hc4 hc5 hc6
          by_cases c1 : 1 ≤ o
          case neg =>
            have e1 : ¬ (1 : Int) ≤ o := by omega
            have FI := hide ((shapes_fact o ho14 i hk4 true true).trans (goodS_1 c1 : goodS o i true true = false))
            replace c1 := hide c1
            go_wp2_with fail
            refine (unhide cI).mono ?_
            rintro r u1 ⟨rfl, hb1⟩
            rw [unhide FI]
            go_wp2_with fail
            go_ret
            exact ⟨rfl, b9.trans (hb1.mono b9.size)⟩
          have e1 : (1 : Int) ≤ o := by omega
          by_cases c2 : o ≤ 12
          case neg =>
            have e2 : ¬ (o : Int) ≤ 12 := by omega
            have FI := hide ((shapes_fact o ho14 i hk4 true true).trans (goodS_2 c2 : goodS o i true true = false))
            replace c1 := hide c1
            replace c2 := hide c2
            go_wp2_with fail
            refine (unhide cI).mono ?_
            rintro r u1 ⟨rfl, hb1⟩
            rw [unhide FI]
            go_wp2_with fail
            go_ret
            exact ⟨rfl, b9.trans (hb1.mono b9.size)⟩
          have e2 : (o : Int) ≤ 12 := by omega
          by_cases c3 : i = kidsN o
          case neg =>
            have e3 : ((i : Int) == (kidsN o : Int)) = false := by simp; omega
            have FI := hide ((shapes_fact o ho14 i hk4 true true).trans (goodS_3 c3 : goodS o i true true = false))
            replace c1 := hide c1
            replace c2 := hide c2
            replace c3 := hide c3
            go_wp2_with fail
            refine (unhide cKi).mono ?_
            rintro r _ ⟨rfl, rfl⟩
            go_wp2_with fail
            refine (unhide cI).mono ?_
            rintro r u1 ⟨rfl, hb1⟩
            rw [unhide FI]
            go_wp2_with fail
            go_ret
            exact ⟨rfl, b9.trans (hb1.mono b9.size)⟩
          have e3 : ((i : Int) == (kidsN o : Int)) = true := by simp; omega
          by_cases c4 : o = 2
          · have e4 : ((o : Int) == 2) = true := by simp; omega
            have e5 : ((o : Int) == 1) = false := by simp; omega
            have FI := hide ((shapes_fact o ho14 i hk4 true true).trans (goodS_5 (by simp [c4]) : goodS o i true true = false))
            replace c1 := hide c1
            replace c2 := hide c2
            replace c3 := hide c3
            replace c4 := hide c4
            go_wp2_with fail
            refine (unhide cKi).mono ?_
            rintro r _ ⟨rfl, rfl⟩
            go_wp2_with fail
            refine (unhide cI).mono ?_
            rintro r u1 ⟨rfl, hb1⟩
            rw [unhide FI]
            go_wp2_with fail
            go_ret
            exact ⟨rfl, b9.trans (hb1.mono b9.size)⟩
          by_cases c5 : o = 1
          · have e4 : ((o : Int) == 2) = false := by simp; omega
            have e5 : ((o : Int) == 1) = true := by simp; omega
            have FI := hide ((shapes_fact o ho14 i hk4 true true).trans (goodS_4 (by simp [c4]) : goodS o i true true = false))
            replace c1 := hide c1
            replace c2 := hide c2
            replace c3 := hide c3
            replace c4 := hide c4
            replace c5 := hide c5
            go_wp2_with fail
            refine (unhide cKi).mono ?_
            rintro r _ ⟨rfl, rfl⟩
            go_wp2_with fail
            refine (unhide cI).mono ?_
            rintro r u1 ⟨rfl, hb1⟩
            rw [unhide FI]
            go_wp2_with fail
            go_ret
            exact ⟨rfl, b9.trans (hb1.mono b9.size)⟩
          · have e4 : ((o : Int) == 2) = false := by simp; omega
            have e5 : ((o : Int) == 1) = false := by simp; omega
            have FI := hide ((shapes_fact o ho14 i hk4 true true).trans (goodS_4 (by simp [c4]) : goodS o i true true = false))
            replace c1 := hide c1
            replace c2 := hide c2
            replace c3 := hide c3
            replace c4 := hide c4
            replace c5 := hide c5
            go_wp2_with fail
            refine (unhide cKi).mono ?_
            rintro r _ ⟨rfl, rfl⟩
            go_wp2_with fail
            refine (unhide cI).mono ?_
            rintro r u1 ⟨rfl, hb1⟩
            rw [unhide FI]
            go_wp2_with fail
            go_ret
            exact ⟨rfl, b9.trans (hb1.mono b9.size)⟩

end Go.Proofs.Ytbmgfibadpffgaa
