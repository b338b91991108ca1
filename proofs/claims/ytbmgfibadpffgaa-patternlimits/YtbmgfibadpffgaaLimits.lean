/-
  PatternLimits' walk: for every two bytes and sixteen bits it answers true; nothing that lay is turned.
-/
import Derived.Test.YtbmgfibadpffgaaRules
namespace Go.Proofs.Ytbmgfibadpffgaa
open Go.RowKit Go.Shelf

def tyT (t : Nat) : Txt := t2 116 (UInt8.ofNat (97 + t))
theorem str_y (i : Nat) : (⟨#[116]⟩ : ByteArray) ++ strOfNums [(97 : Int) + (i : Int)] = (tyT i).1 := by
  have : ((97 : Int) + (i : Int)).toNat = 97 + i := by omega
  apply ByteArray.ext
  simp [tyT, t2, strOfNums, ByteArray.data_append, this]
def tysT (j : Nat) : List Txt := (List.range j).map tyT
def newsS (ts : List Txt) : List Value := ts.map fun t => .string t.1
theorem tysT_succ (j : Nat) : tysT (j + 1) = tysT j ++ [tyT j] := by simp [tysT, List.range_succ]
def elL (j i : Nat) : Em := ⟨alT i, tysT j, false, false, .mk d0 []⟩
def esL (k j : Nat) : List Em := (List.range k).map (elL j)
theorem limits_f : ∀ k < 7, ∀ j < 5, rowB (esL k j) = (decide (1 ≤ k) && decide (k ≤ 5) && decide (1 ≤ j) && decide (j ≤ 3)) := by decide +kernel
theorem limits_p (k j : Nat) (wi : Int) (hk : k < 7) (hj : j < 5) : patB ⟨esL k j, wi, tx0, false⟩ = (decide (1 ≤ k) && decide (k ≤ 5) && decide (1 ≤ j) && decide (j ≤ 3) && decide (0 ≤ wi) && decide (wi ≤ 1000)) := by
  have e : tx0.1.toList.isEmpty = true := by kernel_rfl
  simp only [patB, limits_f k hk j hj, e, Bool.true_or, Bool.and_true]
theorem infoS : (Try.prog.info? 9).map (fun i => (i.zero, i.size, i.bytes)) = some (some (.string ⟨#[]⟩), 1, 16) := by kernel_rfl

/-- What an element's types are when its row is owned. -/
theorem tyIn_own {W : World} {base j : Nat} {a : Option Addr} {c : Nat} {i : Nat} (h : W.ownsRow base 9 1 (.slice a j c) j (newsS (tysT j))) (h5 : j < 5) : TyIn W (elL j i, ⟨a, c, none, 0⟩) := by
  have hl : (tysT j).length = j := by simp [tysT]
  refine ⟨rfl, show (tysT j).length ≤ 10 by rw [hl]; omega, ?_⟩
  rcases Nat.eq_zero_or_pos j with rfl | hj
  · exact .inl rfl
  · rcases h.2 with ⟨_, h0⟩ | ⟨g, c', cur, e, hb, hg, _, _, _, ht⟩
    · omega
    simp only [Value.slice.injEq, true_and] at e
    refine .inr ⟨g, cur, e.1, hg, fun q t hq => ?_⟩
    have hq' : (tysT j)[q]? = some t := hq
    have hql : q < j := by have := (List.getElem?_eq_some_iff.1 hq').1; rwa [hl] at this
    have h1 : (newsS (tysT j))[q]? = some (.string t.1) := by simp [newsS, hq']
    rw [← ht, List.getElem?_take, if_pos (by omega), Array.getElem?_toList] at h1
    exact h1

set_option maxRecDepth 100000 in
set_option maxHeartbeats 8000000 in
theorem limits_walk (n0 n1 n2 : Int) (h0 : 0 ≤ n0) (h1 : n0 ≤ 255) (h2 : 0 ≤ n1) (h3 : n1 ≤ 255) (h4 : 0 ≤ n2) (h5 : n2 ≤ 65535) (w : World) : Calls Try.prog 6 #[.int .u8 n0, .int .u8 n1, .int .u16 n2] w fun e w' => e = .returned (.bool true) ∧ Below w.heap.size w w' := by
  have cK := hide (known_c w)
  obtain ⟨k, hk7, hk⟩ : ∃ m : Nat, m < 7 ∧ n0 % 7 = (m : Int) := ⟨(n0 % 7).toNat, by omega, by omega⟩
  obtain ⟨j, hj5, hj⟩ : ∃ m : Nat, m < 5 ∧ n1 % 5 = (m : Int) := ⟨(n1 % 5).toNat, by omega, by omega⟩
  obtain ⟨x, hx1, hx⟩ : ∃ m : Nat, m < 1003 ∧ n2 % 1003 = (m : Int) := ⟨(n2 % 1003).toNat, by omega, by omega⟩
  obtain ⟨i0, hi0, hz0, hz1, hz2⟩ := info_parts infoE
  obtain ⟨iS, hiS, hs0, hs1, hs2⟩ := info_parts infoS
  go_enter Try.func6, Try.ntmps6
  go_wp2_with fail
  refine (unhide cK).mono ?_
  rintro r w1 ⟨rfl, hb1⟩
  clear cK
  obtain ⟨Bx, eBx⟩ : ∃ Bx, Bx = w1.heap.size := ⟨_, rfl⟩
  obtain ⟨wi, ewi⟩ : ∃ wi : Int, wi = (x : Int) - 1 := ⟨_, rfl⟩
  obtain ⟨w3, hw3⟩ : ∃ w3, w3 = w1.alloc (.cells #[.slice none 0 0, .int .i64 wi, .string ⟨#[]⟩, .bool false] 37) := ⟨_, rfl⟩
  have b3 : Below w1.heap.size w1 w3 := by rw [hw3]; exact (Below.refl _ _).alloc (Nat.le_refl _) _
  have x3 : Box w3 Bx 37 #[.slice none 0 0, .int .i64 wi, .string ⟨#[]⟩, .bool false] := by rw [hw3, eBx]; exact Box.new _ _ _
  have bw3 : Below w.heap.size w w3 := hb1.trans (b3.mono hb1.size)
  have hBx : w.heap.size ≤ Bx := by rw [eBx]; exact hb1.size
  replace ewi := hide ewi
  go_upto_region 5 with fail
  rw [hk, hj, hx, ← unhide ewi, ← hw3, ← eBx]
  clear hw3 eBx b3 hb1 hk hj hx
  have hwl : -1 ≤ wi := by have := unhide ewi; omega
  have hwu : wi ≤ 1001 := by have := unhide ewi; omega
  clear ewi
  go_wp2_with fail
  go_loopw [10] (fun iv wr => ∃ i : Nat, i ≤ k ∧ iv = .int .i64 i ∧ (∃ v l, Box wr Bx 37 #[v, .int .i64 wi, .string ⟨#[]⟩, .bool false] ∧ Hid (Rw (Bx + 1) wr v l ∧ l.map (·.1) = (List.range i).map (elL j))) ∧ Below w.heap.size w wr) (fun i _ => k - (intOf i).toNat)
  case atStart => exact ⟨0, Nat.zero_le _, rfl, ⟨_, [], x3, hide ⟨Rw.nil _ _, rfl⟩⟩, bw3⟩
  case round =>
    obtain ⟨i, hik, rfl, ⟨v, l, hx, hR⟩, hb⟩ := hrel
    by_cases hlt : i < k
    · have hlt' : (i : Int) < k := by omega
      have hcv := conv1 wr (97 + i)
      have hll := hide (show l.length = i by have := congrArg List.length (unhide hR).2; simpa using this)
      obtain ⟨W0, e0⟩ : ∃ W0, W0 = wr := ⟨_, rfl⟩
      subst e0
      obtain ⟨u, eu⟩ : ∃ u, u = (W0.alloc (.cells #[.int .u8 (97 + i)] 5)).alloc (.cells #[.string (alT i).1, .slice none 0 0, .bool false, .bool false, .int .i64 0, .int .i64 0, .int .i64 0, .string ⟨#[]⟩, .string ⟨#[]⟩, .string ⟨#[]⟩, .slice none 0 0] 41) := ⟨_, rfl⟩
      have bu : Below W0.heap.size W0 u := by rw [eu]; exact ((Below.refl _ _).alloc (Nat.le_refl _) _).alloc (by simp) _
      have xe : Box u (W0.heap.size + 1) 41 #[.string (alT i).1, .slice none 0 0, .bool false, .bool false, .int .i64 0, .int .i64 0, .int .i64 0, .string ⟨#[]⟩, .string ⟨#[]⟩, .string ⟨#[]⟩, .slice none 0 0] := by
        have := Box.new (W0.alloc (.cells #[.int .u8 (97 + i)] 5)) 41 #[.string (alT i).1, .slice none 0 0, .bool false, .bool false, .int .i64 0, .int .i64 0, .int .i64 0, .string ⟨#[]⟩, .string ⟨#[]⟩, .string ⟨#[]⟩, .slice none 0 0]
        simp only [World.size_alloc] at this
        rw [eu]; exact this
      replace eu := hide eu
      go_upto_region 9 with fail
      rw [str_a i, ← unhide eu]
      clear eu hcv
      obtain ⟨Be, eBe⟩ : ∃ Be, Be = W0.heap.size + 1 := ⟨_, rfl⟩
      rw [← eBe] at xe ⊢
      have hBe : W0.heap.size ≤ Be := by omega
      clear eBe
      go_wp2_with fail
      go_loopw [12] (fun fv wf => ∃ f : Nat, f ≤ j ∧ fv = .int .i64 f ∧ (∃ v', Box wf Be 41 #[.string (alT i).1, v', .bool false, .bool false, .int .i64 0, .int .i64 0, .int .i64 0, .string ⟨#[]⟩, .string ⟨#[]⟩, .string ⟨#[]⟩, .slice none 0 0] ∧ Hid (wf.ownsRow (Be + 1) 9 1 v' f (newsS (tysT f)))) ∧ Below W0.heap.size W0 wf) (fun f _ => j - (intOf f).toNat)
      case atStart => exact ⟨0, Nat.zero_le _, rfl, ⟨_, xe, hide (World.ownsRow_nil _ _ _ _)⟩, bu⟩
      case round =>
        obtain ⟨f, hf, rfl, ⟨v', hxe, hor⟩, hbf⟩ := hrel
        obtain ⟨hc0, hc1, hc2, hc3, hc4, hc5, hc6, hc7, hc8, hc9, hc10⟩ := hxe.eleven
        by_cases hfl : f < j
        · have hfl' : (f : Int) < j := by omega
          have hcv := conv1 wr (97 + f)
          obtain ⟨u2, eu2⟩ : ∃ u2, u2 = (wr.alloc (.cells #[.int .u8 (97 + f)] 5)).alloc (.cells #[.string (tyT f).1] 9) := ⟨_, rfl⟩
          have bu2 : Below wr.heap.size wr u2 := by rw [eu2]; exact ((Below.refl _ _).alloc (Nat.le_refl _) _).alloc (by simp) _
          have xs : Box u2 (wr.heap.size + 1) 9 #[.string (tyT f).1] := by
            have := Box.new (wr.alloc (.cells #[.int .u8 (97 + f)] 5)) 9 #[.string (tyT f).1]
            simp only [World.size_alloc] at this
            rw [eu2]; exact this
          have xu2 := hxe.on bu2 hxe.lt
          have hou := hide (owns_below (unhide hor) bu2)
          have hsz : Be + 1 ≤ u2.heap.size := by have := xu2.lt; omega
          replace eu2 := hide eu2
          go_wp2_with (at_builtin; rw [str_y f, ← unhide eu2]; go_must (refine wpList_append_own _ rfl _ _ 39 rfl (Be + 1) 9 iS (.string ⟨#[]⟩) 1 16 Try.underlying39 hiS hs0 hs1 hs2 rfl (by decide) v' f (newsS (tysT f)) rfl (unhide hou) ⟨wr.heap.size + 1, 0, none⟩ 1 1 [.string (tyT f).1] rfl rfl (news_box xs) (by simp [Value.oneCell']) (by unfold maxLen; omega) (by omega) hsz ?_); intro v5 u5 hown hgrow hwh; obtain ⟨a5, k5, rfl⟩ := owns_slice hown; have c5 : Box u5 Be 41 #[.string (alT i).1, v', .bool false, .bool false, .int .i64 0, .int .i64 0, .int .i64 0, .string ⟨#[]⟩, .string ⟨#[]⟩, .string ⟨#[]⟩, .slice none 0 0] := (hgrow.block _ xu2.lt (fun e => by have := ((unhide hou).lt _ e.symm).1; omega)).trans xu2; obtain ⟨hh0, hh1, hh2, hh3, hh4, hh5, hh6, hh7, hh8, hh9, hh10⟩ := c5.eleven; have hhf := c5.frz 1; replace hown := hide hown; replace hwh := hide hwh; replace hgrow := hide hgrow)
          have o6 := owns_set (unhide hown) ⟨Be, 1, none⟩ (.slice a5 (f + 1) k5) (by simp)
          rw [show newsS (tysT f) ++ [.string (tyT f).1] = newsS (tysT (f + 1)) by rw [tysT_succ]; simp [newsS]] at o6
          have x6 : Box (u5.setCell ⟨Be, 1, none⟩ (.slice a5 (f + 1) k5)) Be 41 #[.string (alT i).1, .slice a5 (f + 1) k5, .bool false, .bool false, .int .i64 0, .int .i64 0, .int .i64 0, .string ⟨#[]⟩, .string ⟨#[]⟩, .string ⟨#[]⟩, .slice none 0 0] := c5.set 1 _
          have b5 : Below W0.heap.size W0 u5 := (hbf.trans (bu2.mono hbf.size)).grown (unhide hgrow) (by have := bu2.size; have := hbf.size; omega) (fun g e => by have := ((unhide hou).lt g e).1; omega)
          have b6 := b5.setCell (p := ⟨Be, 1, none⟩) hBe (.slice a5 (f + 1) k5)
          go_roundw
          case rel => exact ⟨f + 1, by omega, by go_num, ⟨_, x6, hide o6⟩, b6⟩
          case measure => simp [intOf]; omega
        · have hfe : f = j := by omega
          subst hfe
          clear hfl
          obtain ⟨a', c', rfl⟩ := owns_slice (unhide hor)
          have hxw := hx.on hbf hx.lt
          have hRw := (unhide hR).1.on hbf
          have hty := tyIn_own (i := i) (unhide hor) hj5
          obtain ⟨u3, eu3⟩ : ∃ u3, u3 = wr.alloc (.cells #[.string (alT i).1, (.slice a' f c'), .bool false, .bool false, .int .i64 0, .int .i64 0, .int .i64 0, .string ⟨#[]⟩, .string ⟨#[]⟩, .string ⟨#[]⟩, .slice none 0 0] 41) := ⟨_, rfl⟩
          have bu3 : Below wr.heap.size wr u3 := by rw [eu3]; exact (Below.refl _ _).alloc (Nat.le_refl _) _
          have xn : Box u3 wr.heap.size 41 #[.string (alT i).1, (.slice a' f c'), .bool false, .bool false, .int .i64 0, .int .i64 0, .int .i64 0, .string ⟨#[]⟩, .string ⟨#[]⟩, .string ⟨#[]⟩, .slice none 0 0] := by rw [eu3]; exact Box.new _ _ _
          have xu3 := hxw.on bu3 hxw.lt
          have hR3 := hRw.on bu3
          have hou := hide (show u3.ownsRow (Bx + 1) 41 11 v i (newsE l) by have := hR3.own; rwa [unhide hll] at this)
          have hsz : Bx + 1 ≤ u3.heap.size := by have := xu3.lt; omega
          obtain ⟨gd0, gd1, gd2, gd3⟩ := hxw.four
          replace eu3 := hide eu3
          replace hR3 := hide hR3
          replace hRw := hide hRw
          replace hty := hide hty
          go_wp2_with (at_builtin; rw [← unhide eu3]; go_must (refine wpList_append_own _ rfl _ _ 35 rfl (Bx + 1) 41 i0 (.agg #[.string ⟨#[]⟩, .slice none 0 0, .bool false, .bool false, .int .i64 0, .int .i64 0, .int .i64 0, .string ⟨#[]⟩, .string ⟨#[]⟩, .string ⟨#[]⟩, .slice none 0 0]) 11 144 Try.underlying35 hi0 hz0 hz1 hz2 rfl (by decide) v i (newsE l) rfl (unhide hou) ⟨wr.heap.size, 0, none⟩ 1 1 [.string (alT i).1, (.slice a' f c'), .bool false, .bool false, .int .i64 0, .int .i64 0, .int .i64 0, .string ⟨#[]⟩, .string ⟨#[]⟩, .string ⟨#[]⟩, .slice none 0 0] rfl rfl (news_box xn) (by simp [Value.oneCell']) (by unfold maxLen; omega) (by omega) hsz ?_); intro v5 u5 hown hgrow hwh; obtain ⟨a5, k5, rfl⟩ := owns_slice hown; have c5 : Box u5 Bx 37 #[v, .int .i64 wi, .string ⟨#[]⟩, .bool false] := (hgrow.block _ xu3.lt (fun e => by have := ((unhide hou).lt _ e.symm).1; omega)).trans xu3; obtain ⟨hh0, hh1, hh2, hh3⟩ := c5.four; have hhf := c5.frz 0; replace hown := hide hown; replace hwh := hide hwh; replace hgrow := hide hgrow)
          have hT5 : ∀ z ∈ l ++ [(elL f i, (⟨a', c', none, 0⟩ : Pl))], TyIn u5 z := by
            have hgr := fun g e => (owns_lt (unhide hou) (g := g) e).2
            intro z hz'
            rcases List.mem_append.1 hz' with h | h
            · exact ((unhide hR3).ty z h).grown (unhide hgrow) hgr
            · simp only [List.mem_singleton] at h
              subst h
              exact ((unhide hty).on bu3).grown (unhide hgrow) hgr
          have hR5 : Rw (Bx + 1) u5 (.slice a5 (i + 1) k5) (l ++ [(elL f i, (⟨a', c', none, 0⟩ : Pl))]) := by
            refine ⟨?_, hT5⟩
            rw [newsE_snoc, List.length_append, unhide hll]
            have := unhide hown
            have e : (elL f i).ts.length = f := by simp [elL, tysT]
            simp only [e]
            exact this
          have hR6 := hR5.box c5 (by decide) (by omega) 0 (.slice a5 (i + 1) k5)
          have b5 : Below w.heap.size w u5 := (hb.trans ((hbf.trans (bu3.mono hbf.size)).mono hb.size)).grown (unhide hgrow) (by have := bu3.size; have := hbf.size; have := hb.size; omega) (fun g e => by have := ((unhide hou).lt g e).1; omega)
          have x6 : Box (u5.setCell ⟨Bx, 0, none⟩ (.slice a5 (i + 1) k5)) Bx 37 #[.slice a5 (i + 1) k5, .int .i64 wi, .string ⟨#[]⟩, .bool false] := c5.set 0 _
          have b6 := b5.setCell (p := ⟨Bx, 0, none⟩) hBx (.slice a5 (i + 1) k5)
          have hl6 := hide (show (l ++ [(elL f i, (⟨a', c', none, 0⟩ : Pl))]).map (·.1) = (List.range (i + 1)).map (elL f) by rw [List.map_append, (unhide hR).2, List.range_succ, List.map_append]; rfl)
          clear hT5 hR5
          go_roundw
          case rel => exact ⟨i + 1, by omega, by go_num, ⟨_, _, x6, hide ⟨hR6, unhide hl6⟩⟩, b6⟩
          case measure => simp [intOf]; omega
    · have hie : i = k := by omega
      subst hie
      clear hlt
      obtain ⟨a0, c0, e0, hc, hE⟩ := (unhide hR).1.ems (by have := congrArg List.length (unhide hR).2; simp at this; omega)
      rw [(unhide hR).2] at e0 hc hE
      have hel : (esL i j).length = i := by simp [esL]
      rw [show ((List.range i).map (elL j)).length = i from hel] at e0
      subst e0
      have cP := pattern_c ⟨esL i j, wi, tx0, false⟩ a0 c0 hc wr hE
      rw [ptv hel] at cP
      have FP := hide (limits_p i j wi hk7 hj5)
      replace cP := hide cP
      replace hE := hide hE
      replace hel := hide hel
      obtain ⟨hc0, hc1, hc2, hc3⟩ := hx.four
      go_wp2_with fail
      refine (unhide cP).mono ?_
      rintro r w5 ⟨rfl, hb5⟩
      clear cP hc0 hc1 hc2 hc3
      have x5 := hx.on hb5 hx.lt
      obtain ⟨hc0, hc1, hc2, hc3⟩ := x5.four
      have bE := hb.trans (hb5.mono hb.size)
      by_cases c1 : 1 ≤ i
      case neg =>
        have ec1 : ¬ (1 : Int) ≤ i := by omega
        rw [show patB ⟨esL i j, wi, tx0, false⟩ = false by rw [unhide FP, decide_eq_false c1]; simp]
        clear  c1
        go_wp2_with fail
        go_ret
        exact ⟨rfl, bE⟩
      have ec1 : (1 : Int) ≤ i := by omega
      by_cases c2 : i ≤ 5
      case neg =>
        have ec2 : ¬ (i : Int) ≤ 5 := by omega
        rw [show patB ⟨esL i j, wi, tx0, false⟩ = false by rw [unhide FP, decide_eq_false c2]; simp]
        clear c1 c2
        go_wp2_with fail
        go_ret
        exact ⟨rfl, bE⟩
      have ec2 : (i : Int) ≤ 5 := by omega
      by_cases c3 : 1 ≤ j
      case neg =>
        have ec3 : ¬ (1 : Int) ≤ j := by omega
        rw [show patB ⟨esL i j, wi, tx0, false⟩ = false by rw [unhide FP, decide_eq_false c3]; simp]
        clear c1 c2 c3
        go_wp2_with fail
        go_ret
        exact ⟨rfl, bE⟩
      have ec3 : (1 : Int) ≤ j := by omega
      by_cases c4 : j ≤ 3
      case neg =>
        have ec4 : ¬ (j : Int) ≤ 3 := by omega
        rw [show patB ⟨esL i j, wi, tx0, false⟩ = false by rw [unhide FP, decide_eq_false c4]; simp]
        clear c1 c2 c3 c4
        go_wp2_with fail
        go_ret
        exact ⟨rfl, bE⟩
      have ec4 : (j : Int) ≤ 3 := by omega
      by_cases c5 : 0 ≤ wi
      case neg =>
        have ec5 : ¬ 0 ≤ wi := by omega
        rw [show patB ⟨esL i j, wi, tx0, false⟩ = false by rw [unhide FP, decide_eq_false c5]; simp]
        clear c1 c2 c3 c4 
        go_wp2_with fail
        go_ret
        exact ⟨rfl, bE⟩
      have ec5 : 0 ≤ wi := by omega
      by_cases c6 : wi ≤ 1000
      case neg =>
        have ec6 : ¬ wi ≤ 1000 := by omega
        rw [show patB ⟨esL i j, wi, tx0, false⟩ = false by rw [unhide FP, decide_eq_false c6]; simp]
        clear c1 c2 c3 c4 
        go_wp2_with fail
        go_ret
        exact ⟨by show Ending.returned (.bool (!decide (wi ≤ 1000))) = _; rw [decide_eq_false (by omega)]; rfl, bE⟩
      have ec6 : wi ≤ 1000 := by omega
      rw [show patB ⟨esL i j, wi, tx0, false⟩ = true by rw [unhide FP, decide_eq_true c1, decide_eq_true c2, decide_eq_true c3, decide_eq_true c4, decide_eq_true c5, decide_eq_true c6]; rfl]
      clear c1 c2 c3 c4
      go_wp2_with fail
      go_ret
      exact ⟨rfl, bE⟩

end Go.Proofs.Ytbmgfibadpffgaa
