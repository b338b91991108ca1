/-
  What WordBlanks answers: true; in whatever world in which the package variables stand.
-/
import Derived.Test.YtgfaaeloppdkkaaDoorBlanksC
namespace Go.Proofs.YtgfaaeloppdkkaaDoor
open Go.RowKit Go.Shelf

/-- The blanks behind word i. -/
def blk (ys : List Int) (i : Nat) : Nat := if h : i < ys.length then (ys[i] % 4).toNat else 0
theorem blk_le (ys : List Int) (i : Nat) : blk ys i ≤ 3 := by unfold blk; split <;> omega
/-- The first i words: without blanks more, and with them. -/
def itS (xs : List Int) (i : Nat) : List (Nat × Nat) := (xs.take i).map fun x => (x.toNat, 0)
def itT (xs ys : List Int) (i : Nat) : List (Nat × Nat) := (List.range (min i xs.length)).map fun j => ((xs.getD j 0).toNat, blk ys j)
theorem itS_le (xs : List Int) (i : Nat) : ∀ x ∈ itS xs i, x.2 ≤ 3 := by
  intro x hx; obtain ⟨y, _, rfl⟩ := List.mem_map.1 hx; exact Nat.zero_le _
theorem itT_le (xs ys : List Int) (i : Nat) : ∀ x ∈ itT xs ys i, x.2 ≤ 3 := by
  intro x hx; obtain ⟨y, _, rfl⟩ := List.mem_map.1 hx; exact blk_le ys y
theorem itS_len (xs : List Int) (i : Nat) (h : i ≤ xs.length) : (itS xs i).length = i := by simp [itS]; omega
theorem itT_len (xs ys : List Int) (i : Nat) (h : i ≤ xs.length) : (itT xs ys i).length = i := by simp [itT]; omega
theorem itS_snoc (xs : List Int) (i : Nat) (h : i < xs.length) : itS xs (i + 1) = itS xs i ++ [(xs[i].toNat, 0)] := by
  rw [itS, List.take_succ_eq_append_getElem h, List.map_append]; rfl
theorem itT_snoc (xs ys : List Int) (i : Nat) (h : i < xs.length) : itT xs ys (i + 1) = itT xs ys i ++ [(xs[i].toNat, blk ys i)] := by
  rw [itT, itT, Nat.min_eq_left (by omega), Nat.min_eq_left (by omega), List.range_succ, List.map_append]
  simp [h]
theorem it_word (xs ys : List Int) (j : Nat) (h : j < xs.length) (hS : j < (itS xs xs.length).length) (hT : j < (itT xs ys xs.length).length) : (itS xs xs.length)[j].1 = (itT xs ys xs.length)[j].1 := by
  simp [itS, itT, h]

set_option maxRecDepth 100000 in
set_option maxHeartbeats 4000000 in
theorem blanks4_c (a0 a1 : Option Addr) (cap0 cap1 : Nat) (xs ys : List Int) (w : World) (hx : ByteS w.heap.size w (.slice a0 xs.length cap0) xs) (hy : ByteS w.heap.size w (.slice a1 ys.length cap1) ys) (hV : Vars w) :
    Calls Tryd.prog 4 #[.slice a0 xs.length cap0, .slice a1 ys.length cap1] w fun e w' => e = .returned (.bool true) ∧ Below w.heap.size w w' := by
  rcases Nat.lt_or_ge 40 xs.length with h40 | h40
  · have h40' : ¬ (xs.length : Int) ≤ 40 := by omega
    go_enter Tryd.func4, Tryd.ntmps4
    go_wp2_with fail
    refine (known9_c _ hV).mono ?_
    rintro e w1 ⟨rfl, hb1⟩
    go_wp2_with fail
    go_ret
    exact ⟨rfl, hb1⟩
  have h40' : (xs.length : Int) ≤ 40 := by omega
  have HX := hide hx
  have HY := hide hy
  clear hx hy
  go_enter Tryd.func4, Tryd.ntmps4
  go_wp2_with fail
  refine (known9_c _ hV).mono ?_
  rintro e w1 ⟨rfl, hb1⟩
  have HX1 := hide ((unhide HX).below hb1)
  have HY1 := hide ((unhide HY).below hb1)
  have hV1 := hV.up hb1
  go_wp2_with fail
  go_loopw [5, 6, 7] (fun s t i wr => ∃ k : Nat, k ≤ xs.length ∧ i = .int .i64 k ∧ s = .string (bB (itS xs k)) ∧ t = .string (bB (itT xs ys k)) ∧ wr = w1) (fun _ _ i _ => xs.length - (intOf i).toNat)
  case atStart => exact ⟨0, Nat.zero_le _, rfl, by simp [itS]; rfl, by simp [itT]; rfl, rfl⟩
  case round =>
    obtain ⟨k, hk, rfl, rfl, rfl, rfl⟩ := hrel
    by_cases hlt : k < xs.length
    · rcases unhide HX1 with ⟨_, _, e, hnil⟩ | ⟨b, off, cap, e, hbl, hcx⟩
      · rw [hnil] at hlt; simp at hlt
      simp only [Value.slice.injEq, true_and] at e
      obtain ⟨rfl, rfl⟩ := e
      obtain ⟨hc, hx0, hx1⟩ := hcx k hlt
      have HCX := hide hcx
      clear hcx
      have hs1 := bB_size (itS xs k) (itS_le xs k)
      have ht1 := bB_size (itT xs ys k) (itT_le xs ys k)
      rw [itS_len xs k hk] at hs1
      rw [itT_len xs ys k hk] at ht1
      have htb := tB_size (xs[k].toNat)
      have hs2 : (bB (itS xs k)).size + 1 + (tB xs[k].toNat).size ≤ 281474976710656 := by omega
      have ht2 : (bB (itT xs ys k)).size + 1 + (tB xs[k].toNat).size ≤ 281474976710656 := by omega
      have hs1 := hide hs1
      have ht1 := hide ht1
      have htb := hide htb
      have Hs := hide (show (bB (itS xs k) ++ ⟨#[32]⟩) ++ tB xs[k].toNat = bB (itS xs (k + 1)) by rw [bB_word, itS_snoc xs k hlt])
      have Ht := hide (bB_word (itT xs ys k) xs[k].toNat)
      have hpk := pick_w xs[k] hx0
      have Hn := hide (show itT xs ys (k + 1) = itT xs ys k ++ [(xs[k].toNat, blk ys k)] from itT_snoc xs ys k hlt)
      have hbk := blk_le ys k
      go_wp2
      rw [unhide Hs, unhide Ht]
      obtain ⟨W0, e0⟩ : ∃ W0, W0 = wr := ⟨_, rfl⟩
      subst e0
      go_loopw [6, 9] (fun t q wr2 => ∃ m : Nat, m ≤ blk ys k ∧ q = .int .i64 m ∧ t = .string (bB (itT xs ys k ++ [(xs[k].toNat, m)])) ∧ wr2 = W0) (fun _ q _ => blk ys k - (intOf q).toNat)
      case atStart => exact ⟨0, Nat.zero_le _, rfl, rfl, rfl⟩
      case round =>
        obtain ⟨m, hm, rfl, rfl, rfl⟩ := hrel
        by_cases hyk : k < ys.length
        · rcases unhide HY1 with ⟨_, _, e, hnil⟩ | ⟨b1, off1, cap1, e, hbl1, hcy⟩
          · rw [hnil] at hyk; simp at hyk
          simp only [Value.slice.injEq, true_and] at e
          obtain ⟨rfl, rfl⟩ := e
          obtain ⟨hc1, hy0, hy1⟩ := hcy k hyk
          have HCY := hide hcy
          clear hcy
          have hB := hide (show (blk ys k : Int) = ys[k] % 4 by unfold blk; rw [dif_pos hyk]; omega)
          by_cases hq : (m : Int) < ys[k] % 4
          · have Hb := hide (bB_blank (itT xs ys k) xs[k].toNat m)
            have hz := bB_size (itT xs ys k ++ [(xs[k].toNat, m)]) (fun x hx => by
              rcases List.mem_append.1 hx with h | h
              · exact itT_le xs ys k x h
              · rw [List.mem_singleton.1 h]; show m ≤ 3; omega)
            rw [List.length_append, itT_len xs ys k hk] at hz
            have hz2 : (bB (itT xs ys k ++ [(xs[k].toNat, m)])).size + 1 ≤ 281474976710656 := by simp at hz; omega
            have hz := hide hz
            have hmb : m + 1 ≤ blk ys k := by have := unhide hB; omega
            go_wp2
            rw [unhide Hb]
            go_roundw
            case rel => exact ⟨m + 1, hmb, by go_num, rfl, trivial⟩
            case measure => simp [intOf]; omega
          · have hq' : decide ((m : Int) < ys[k] % 4) = false := decide_eq_false hq
            have hmb : m = blk ys k := by have := unhide hB; omega
            have hq2 : ys[k] % 4 ≤ (m : Int) := by omega
            go_wp2
            go_roundw
            case rel => exact ⟨k + 1, by omega, by go_num, rfl, by rw [unhide Hn, hmb], trivial⟩
            case measure => simp [intOf]; omega
        · have hmb : m = blk ys k := by
            have : blk ys k = 0 := by unfold blk; rw [dif_neg hyk]
            omega
          have hyk' : decide ((k : Int) < ys.length) = false := decide_eq_false (by omega)
          go_wp2
          go_roundw
          case rel => exact ⟨k + 1, by omega, by go_num, rfl, by rw [unhide Hn, hmb], trivial⟩
          case measure => simp [intOf]; omega
    · obtain rfl : k = xs.length := by omega
      have hS := itS_len xs xs.length (Nat.le_refl _)
      have hT := itT_len xs ys xs.length (Nat.le_refl _)
      have HC1 := hide (show ∀ w, Vars w → _ from fun w hV => cut_bl (itS xs xs.length) (itS_le xs _) (by omega) w hV)
      have HC2 := hide (show ∀ w, Vars w → _ from fun w hV => cut_bl (itT xs ys xs.length) (itT_le xs ys _) (by omega) w hV)
      go_wp2_with fail
      refine (unhide HC1 _ hV1).mono ?_
      rintro e w2 ⟨a2, cp2, rfl, hc2, hb2⟩
      have hV2 := hV1.up hb2
      go_wp2_with fail
      refine (unhide HC2 _ hV2).mono ?_
      rintro e w3 ⟨a3, cp3, rfl, hc3, hb3⟩
      have hbz := hide (show Below w.heap.size w w3 from hb1.trans ((hb2.trans (hb3.mono hb2.size)).mono hb1.size))
      have hls : ((itS xs xs.length).length : Int) = xs.length := by rw [hS]
      have hlt2 : ((itT xs ys xs.length).length : Int) = xs.length := by rw [hT]
      go_wp2_with fail
      go_loopw [14] (fun q wr2 => ∃ m : Nat, m ≤ xs.length ∧ q = .int .i64 m ∧ Below w3.heap.size w3 wr2) (fun q _ => xs.length - (intOf q).toNat)
      case atStart => exact ⟨0, Nat.zero_le _, rfl, Below.refl _ _⟩
      case round =>
        obtain ⟨m, hm, rfl, hbr⟩ := hrel
        by_cases hmx : m < xs.length
        · have jS : m < (itS xs xs.length).length := by rw [hS]; exact hmx
          have jT : m < (itT xs ys xs.length).length := by rw [hT]; exact hmx
          obtain ⟨g2, ea2, hg2, c20, c21, c22, c23⟩ := unhide hc2 m jS
          obtain ⟨g3, ea3, hg3, c30, c31, c32, c33⟩ := unhide hc3 m jT
          rw [it_word xs ys m hmx jS jT] at c20 c21 c22
          subst ea2 ea3
          have up : ∀ o u, w2.cell? ⟨g2, o, none⟩ = some u → wr.cell? ⟨g2, o, none⟩ = some u := fun o u h => (hbr.cell (p := ⟨g2, o, none⟩) (Nat.lt_of_lt_of_le hg2 hb3.size)).trans ((hb3.cell (p := ⟨g2, o, none⟩) hg2).trans h)
          have up3 : ∀ o u, w3.cell? ⟨g3, o, none⟩ = some u → wr.cell? ⟨g3, o, none⟩ = some u := fun o u h => (hbr.cell (p := ⟨g3, o, none⟩) hg3).trans h
          replace c30 := up3 _ _ c30
          replace c31 := up3 _ _ c31
          replace c32 := up3 _ _ c32
          replace c20 := up _ _ c20
          replace c21 := up _ _ c21
          replace c22 := up _ _ c22
          replace c23 := up _ _ c23
          generalize (tW (itT xs ys xs.length)[m].1).1 = kk at c20 c30
          generalize (tW (itT xs ys xs.length)[m].1).2.1.toArray = tt at c21 c31
          generalize (tW (itT xs ys xs.length)[m].1).2.2 = nn at c22 c32
          cases m with
          | zero =>
            generalize bPos 0 (itS xs xs.length) 0 = pb at c23
            simp only [Nat.zero_mul, Nat.zero_add] at c20 c21 c22 c23 c30 c31 c32 c33
            go_wp2
            go_quiet (fail)
            go_wp2
            go_roundw
            case rel => exact ⟨1, by omega, by go_num, below_drewN hbr _⟩
            case measure => simp [intOf]; omega
          | succ m =>
            obtain ⟨g4, ea4, hg4, -, -, -, c43⟩ := unhide hc2 m (by omega)
            simp only [Option.some.injEq, Addr.mk.injEq, and_true] at ea4
            subst ea4
            replace c43 := up _ _ c43
            have hup := bPos_up (itS xs xs.length) 0 m jS
            generalize bPos 0 (itS xs xs.length) (m + 1) = pb at c23 hup
            generalize bPos 0 (itS xs xs.length) m = pa at c43 hup
            have hup1 : ¬ (pb : Int) ≤ pa := by omega
            have hup2 : decide ((pb : Int) ≤ pa) = false := decide_eq_false hup1
            have hm0 : (0 : Int) < (m : Int) + 1 := by omega
            have hm1 : (m : Int) + 1 - 1 = m := by omega
            go_wp2
            go_quiet (fail)
            go_wp2
            go_roundw
            case rel => exact ⟨m + 2, by omega, by go_num, below_drewN hbr _⟩
            case measure => simp [intOf]; omega
        · have hmx' : decide ((m : Int) < xs.length) = false := decide_eq_false (by omega)
          go_wp2
          go_ret
          exact ⟨rfl, (unhide hbz).trans (hbr.mono (unhide hbz).size)⟩

end Go.Proofs.YtgfaaeloppdkkaaDoor
