/-
  PatternRules' walk: for every two bytes it answers true; nothing that lay is turned.
-/
import Derived.Test.YtbmgfibadpffgaaPtRow
import Derived.Deep.CutRange
namespace Go.Proofs.Ytbmgfibadpffgaa
open Go.RowKit Go.Shelf

theorem conv1 (W : World) (c : Int) : (convert 38 9 (.slice (some ⟨W.heap.size, 0, none⟩) 1 1)).run Try.prog (W.alloc (.cells #[.int .u8 c] 5)) = .ok (.string (strOfNums [c])) (W.alloc (.cells #[.int .u8 c] 5)) :=
  run_convert_bytes_arg _ 38 5 Try.underlying38 Try.underlying5 W.heap.size 0 1 1 [c] rfl (fun i hi => by
    have : i = 0 := by omega
    subst this
    simp) 9 Try.underlying9
def t2 (c d : UInt8) : Txt := ⟨⟨#[c, d]⟩, show 2 ≤ maxLen by decide⟩
def alT (i : Nat) : Txt := t2 97 (UInt8.ofNat (97 + i))
theorem str_a (i : Nat) : (⟨#[97]⟩ : ByteArray) ++ strOfNums [(97 : Int) + (i : Int)] = (alT i).1 := by
  have : ((97 : Int) + (i : Int)).toNat = 97 + i := by omega
  apply ByteArray.ext
  simp [alT, t2, strOfNums, ByteArray.data_append, this]
def elK (k i : Nat) : Em := ⟨alT i, [tx1 116, tx1 117], false, decide (i % 2 = 1) && decide (i + 1 < k), .mk d0 []⟩
def esK (k : Nat) : List Em := (List.range k).map (elK k)
def ptK (k : Nat) : Pt := ⟨esK k, 10, tx0, false⟩
theorem ptv {es : List Em} {n : Nat} (h : es.length = n) (wi : Int) (nm : Txt) (any : Bool) (a : Option Addr) (c : Nat) : (⟨es, wi, nm, any⟩ : Pt).v a c = .agg #[.slice a n c, .int .i64 wi, .string nm.1, .bool any] := by rw [← h]
theorem rules_b : ∀ m < 5, patB (ptK (m + 1)) = true := by decide +kernel
theorem rules_0 : ∀ m < 5, patB ⟨(esK (m + 1)).set 0 { elK (m + 1) 0 with nt := true }, 10, tx0, false⟩ = false := by decide +kernel
theorem rules_1 : ∀ m < 5, patB ⟨(esK (m + 1)).set m { elK (m + 1) m with nt := true }, 10, tx0, false⟩ = false := by decide +kernel
theorem rules_2 : ∀ m < 5, patB ⟨(esK (m + 1)).set 0 { elK (m + 1) 0 with ts := [tx1 117, tx1 116] }, 10, tx0, false⟩ = false := by decide +kernel
theorem rules_3 : ∀ m < 5, patB ⟨(esK (m + 1)).set 0 { elK (m + 1) 0 with al := t2 97 98 }, 10, tx0, false⟩ = decide (m = 0) := by decide +kernel
theorem rules_4 : ∀ m < 5, patB { ptK (m + 1) with wi := 1001 } = false := by decide +kernel
theorem rules_5 : ∀ m < 5, patB { ptK (m + 1) with nm := tx1 66 } = false := by decide +kernel
theorem rules_6 : ∀ m < 5, patB ⟨(esK (m + 1)).set 0 { elK (m + 1) 0 with ts := [] }, 10, tx0, false⟩ = false := by decide +kernel
theorem rules_7 : ∀ m < 5, patB ⟨(esK (m + 1)).set 0 { elK (m + 1) 0 with pl := true }, 10, tx0, false⟩ = true := by decide +kernel
theorem rules_8 : ∀ m < 5, patB { ptK (m + 1) with any := true } = true := by decide +kernel

set_option maxRecDepth 100000 in
set_option maxHeartbeats 8000000 in
theorem rules_walk (n0 n1 : Int) (h0 : 0 ≤ n0) (h1 : n0 ≤ 255) (h2 : 0 ≤ n1) (h3 : n1 ≤ 255) (w : World) : Calls Try.prog 4 #[.int .u8 n0, .int .u8 n1] w fun e w' => e = .returned (.bool true) ∧ Below w.heap.size w w' := by
  have cK := hide (known_c w)
  obtain ⟨m, hm5, hm⟩ : ∃ m : Nat, m < 5 ∧ n0 % 5 = (m : Int) := ⟨(n0 % 5).toNat, by omega, by omega⟩
  obtain ⟨q, hq9, hq⟩ : ∃ q : Nat, q < 9 ∧ n1 % 9 = (q : Int) := ⟨(n1 % 9).toNat, by omega, by omega⟩
  obtain ⟨i0, hi0, hz0, hz1, hz2⟩ := info_parts infoE
  replace hq := hide hq
  go_enter Try.func4, Try.ntmps4
  go_wp2_with fail
  refine (unhide cK).mono ?_
  rintro r w1 ⟨rfl, hb1⟩
  clear cK
  obtain ⟨Bx, eBx⟩ : ∃ Bx, Bx = w1.heap.size := ⟨_, rfl⟩
  obtain ⟨w3, hw3⟩ : ∃ w3, w3 = w1.alloc (.cells #[.slice none 0 0, .int .i64 10, .string ⟨#[]⟩, .bool false] 37) := ⟨_, rfl⟩
  have b3 : Below w1.heap.size w1 w3 := by rw [hw3]; exact (Below.refl _ _).alloc (Nat.le_refl _) _
  have x3 : Box w3 Bx 37 #[.slice none 0 0, .int .i64 10, .string ⟨#[]⟩, .bool false] := by rw [hw3, eBx]; exact Box.new _ _ _
  have bw3 : Below w.heap.size w w3 := hb1.trans (b3.mono hb1.size)
  have hBx : w.heap.size ≤ Bx := by rw [eBx]; exact hb1.size
  go_upto_region 5 with fail
  rw [hm, ← hw3, ← eBx]
  clear hw3 eBx b3 hb1 hm
  go_wp2_with fail
  go_loopw [7] (fun iv wr => ∃ i : Nat, i ≤ m + 1 ∧ iv = .int .i64 i ∧ (∃ v l, Box wr Bx 37 #[v, .int .i64 10, .string ⟨#[]⟩, .bool false] ∧ Hid (Rw (Bx + 1) wr v l ∧ l.map (·.1) = (List.range i).map (elK (m + 1)))) ∧ Below w.heap.size w wr) (fun i _ => m + 1 - (intOf i).toNat)
  case atStart => exact ⟨0, Nat.zero_le _, rfl, ⟨_, [], x3, hide ⟨Rw.nil _ _, rfl⟩⟩, bw3⟩
  case round =>
    obtain ⟨i, hik, rfl, ⟨v, l, hx, hR⟩, hb⟩ := hrel
    by_cases hlt : i < m + 1
    · have hlt' : (i : Int) < (m : Int) + 1 := by omega
      have hcv := conv1 wr (97 + i)
      obtain ⟨hc0, hc1, hc2, hc3⟩ := hx.four
      have hf0 := hx.frz 0
      have hll := hide (show l.length = i by have := congrArg List.length (unhide hR).2; simpa using this)
      by_cases p1 : i % 2 = 1
      · have f1 : ((i : Int) % 2 == 1) = true := by simp; omega
        by_cases p2 : i < m
        · have f2 : (i : Int) < m := by omega
          have eB := hide (show elK (m + 1) i = ⟨alT i, [tx1 116, tx1 117], false, true, .mk d0 []⟩ by simp only [elK]; congr 1; simp; omega)
          obtain ⟨u, eu⟩ : ∃ u, u = ((wr.alloc (.cells #[.int .u8 (97 + i)] 5)).alloc (.cells #[.string ⟨#[116]⟩, .string ⟨#[117]⟩] 9)).alloc (.cells #[.string (alT i).1, .slice (some ⟨wr.heap.size + 1, 0, none⟩) 2 2, .bool false, .bool true, .int .i64 0, .int .i64 0, .int .i64 0, .string ⟨#[]⟩, .string ⟨#[]⟩, .string ⟨#[]⟩, .slice none 0 0] 41) := ⟨_, rfl⟩
          have bu : Below wr.heap.size wr u := by rw [eu]; exact (((Below.refl _ _).alloc (Nat.le_refl _) _).alloc (by simp) _).alloc (by simp; omega) _
          have xt : Box u (wr.heap.size + 1) 9 #[.string ⟨#[116]⟩, .string ⟨#[117]⟩] := by
            have := (Box.new (wr.alloc (.cells #[.int .u8 (97 + i)] 5)) 9 #[.string ⟨#[116]⟩, .string ⟨#[117]⟩]).alloc (.cells #[.string (alT i).1, .slice (some ⟨wr.heap.size + 1, 0, none⟩) 2 2, .bool false, .bool true, .int .i64 0, .int .i64 0, .int .i64 0, .string ⟨#[]⟩, .string ⟨#[]⟩, .string ⟨#[]⟩, .slice none 0 0] 41)
            simp only [World.size_alloc] at this
            rw [eu]; exact this
          have xe : Box u (wr.heap.size + 1 + 1) 41 #[.string (alT i).1, .slice (some ⟨wr.heap.size + 1, 0, none⟩) 2 2, .bool false, .bool true, .int .i64 0, .int .i64 0, .int .i64 0, .string ⟨#[]⟩, .string ⟨#[]⟩, .string ⟨#[]⟩, .slice none 0 0] := by
            have := Box.new ((wr.alloc (.cells #[.int .u8 (97 + i)] 5)).alloc (.cells #[.string ⟨#[116]⟩, .string ⟨#[117]⟩] 9)) 41 #[.string (alT i).1, .slice (some ⟨wr.heap.size + 1, 0, none⟩) 2 2, .bool false, .bool true, .int .i64 0, .int .i64 0, .int .i64 0, .string ⟨#[]⟩, .string ⟨#[]⟩, .string ⟨#[]⟩, .slice none 0 0]
            simp only [World.size_alloc] at this
            rw [eu]; exact this
          have hRu := (unhide hR).1.on bu
          have xu := hx.on bu hx.lt
          have hou := hide (show u.ownsRow (Bx + 1) 41 11 v i (newsE l) by have := hRu.own; rwa [unhide hll] at this)
          have hsz : Bx + 1 ≤ u.heap.size := by have := xu.lt; omega
          replace hRu := hide hRu
          replace eu := hide eu
          obtain ⟨gc0, gc1, gc2, gc3⟩ := xu.four
          have gf0 := xu.frz 0
          go_wp2_with (at_builtin; rw [str_a i, ← unhide eu]; go_must (refine wpList_append_own _ rfl _ _ 35 rfl (Bx + 1) 41 i0 (.agg #[.string ⟨#[]⟩, .slice none 0 0, .bool false, .bool false, .int .i64 0, .int .i64 0, .int .i64 0, .string ⟨#[]⟩, .string ⟨#[]⟩, .string ⟨#[]⟩, .slice none 0 0]) 11 144 Try.underlying35 hi0 hz0 hz1 hz2 rfl (by decide) v i (newsE l) rfl (unhide hou) ⟨wr.heap.size + 1 + 1, 0, none⟩ 1 1 [.string (alT i).1, .slice (some ⟨wr.heap.size + 1, 0, none⟩) 2 2, .bool false, .bool true, .int .i64 0, .int .i64 0, .int .i64 0, .string ⟨#[]⟩, .string ⟨#[]⟩, .string ⟨#[]⟩, .slice none 0 0] rfl rfl (news_box xe) (by simp [Value.oneCell']) (by unfold maxLen; omega) (by omega) hsz ?_); intro v' u5 hown hgrow hwh; obtain ⟨a5, k5, rfl⟩ := owns_slice hown; have c5 : Box u5 Bx 37 #[v, .int .i64 10, .string ⟨#[]⟩, .bool false] := (hgrow.block _ xu.lt (fun e => by have := ((unhide hou).lt _ e.symm).1; omega)).trans xu; obtain ⟨hh0, hh1, hh2, hh3⟩ := c5.four; have hhf := c5.frz 0; replace hown := hide hown; replace hwh := hide hwh; replace hgrow := hide hgrow)
          have hT5 : ∀ x ∈ l ++ [(elK (m + 1) i, (⟨some ⟨wr.heap.size + 1, 0, none⟩, 2, none, 0⟩ : Pl))], TyIn u5 x := by
            have hgr := fun g e => (owns_lt (unhide hou) (g := g) e).2
            intro x hx'
            rcases List.mem_append.1 hx' with h | h
            · exact ((unhide hRu).ty x h).grown (unhide hgrow) hgr
            · simp only [List.mem_singleton] at h
              subst h
              refine TyIn.grown ⟨rfl, by simp [elK], .inr ⟨_, _, rfl, xt, fun j t ht => ?_⟩⟩ (unhide hgrow) hgr
              match j with
              | 0 => simp [elK] at ht; subst ht; rfl
              | 1 => simp [elK] at ht; subst ht; rfl
              | j + 2 => simp [elK] at ht
          have hR5 : Rw (Bx + 1) u5 (.slice a5 (i + 1) k5) (l ++ [(elK (m + 1) i, (⟨some ⟨wr.heap.size + 1, 0, none⟩, 2, none, 0⟩ : Pl))]) := by
            refine ⟨?_, hT5⟩
            rw [newsE_snoc, List.length_append, unhide hll, unhide eB]
            exact unhide hown
          have hR6 := hR5.box c5 (by decide) (by omega) 0 (.slice a5 (i + 1) k5)
          have b5 : Below w.heap.size w u5 := (hb.trans (bu.mono hb.size)).grown (unhide hgrow) (by have := bu.size; have := hb.size; omega) (fun g e => by have := ((unhide hou).lt g e).1; omega)
          have x6 : Box (u5.setCell ⟨Bx, 0, none⟩ (.slice a5 (i + 1) k5)) Bx 37 #[.slice a5 (i + 1) k5, .int .i64 10, .string ⟨#[]⟩, .bool false] := c5.set 0 _
          have b6 := b5.setCell (p := ⟨Bx, 0, none⟩) hBx (.slice a5 (i + 1) k5)
          have hl6 := hide (show (l ++ [(elK (m + 1) i, (⟨some ⟨wr.heap.size + 1, 0, none⟩, 2, none, 0⟩ : Pl))]).map (·.1) = (List.range (i + 1)).map (elK (m + 1)) by rw [List.map_append, (unhide hR).2, List.range_succ, List.map_append]; rfl)
          clear hT5 hR5
          go_roundw
          case rel => exact ⟨i + 1, by omega, by go_num, ⟨_, _, x6, hide ⟨hR6, unhide hl6⟩⟩, b6⟩
          case measure => simp [intOf]; omega
        · have f2 : ¬ (i : Int) < m := by omega
          have eB := hide (show elK (m + 1) i = ⟨alT i, [tx1 116, tx1 117], false, false, .mk d0 []⟩ by simp only [elK]; congr 1; simp; omega)
          obtain ⟨u, eu⟩ : ∃ u, u = ((wr.alloc (.cells #[.int .u8 (97 + i)] 5)).alloc (.cells #[.string ⟨#[116]⟩, .string ⟨#[117]⟩] 9)).alloc (.cells #[.string (alT i).1, .slice (some ⟨wr.heap.size + 1, 0, none⟩) 2 2, .bool false, .bool false, .int .i64 0, .int .i64 0, .int .i64 0, .string ⟨#[]⟩, .string ⟨#[]⟩, .string ⟨#[]⟩, .slice none 0 0] 41) := ⟨_, rfl⟩
          have bu : Below wr.heap.size wr u := by rw [eu]; exact (((Below.refl _ _).alloc (Nat.le_refl _) _).alloc (by simp) _).alloc (by simp; omega) _
          have xt : Box u (wr.heap.size + 1) 9 #[.string ⟨#[116]⟩, .string ⟨#[117]⟩] := by
            have := (Box.new (wr.alloc (.cells #[.int .u8 (97 + i)] 5)) 9 #[.string ⟨#[116]⟩, .string ⟨#[117]⟩]).alloc (.cells #[.string (alT i).1, .slice (some ⟨wr.heap.size + 1, 0, none⟩) 2 2, .bool false, .bool false, .int .i64 0, .int .i64 0, .int .i64 0, .string ⟨#[]⟩, .string ⟨#[]⟩, .string ⟨#[]⟩, .slice none 0 0] 41)
            simp only [World.size_alloc] at this
            rw [eu]; exact this
          have xe : Box u (wr.heap.size + 1 + 1) 41 #[.string (alT i).1, .slice (some ⟨wr.heap.size + 1, 0, none⟩) 2 2, .bool false, .bool false, .int .i64 0, .int .i64 0, .int .i64 0, .string ⟨#[]⟩, .string ⟨#[]⟩, .string ⟨#[]⟩, .slice none 0 0] := by
            have := Box.new ((wr.alloc (.cells #[.int .u8 (97 + i)] 5)).alloc (.cells #[.string ⟨#[116]⟩, .string ⟨#[117]⟩] 9)) 41 #[.string (alT i).1, .slice (some ⟨wr.heap.size + 1, 0, none⟩) 2 2, .bool false, .bool false, .int .i64 0, .int .i64 0, .int .i64 0, .string ⟨#[]⟩, .string ⟨#[]⟩, .string ⟨#[]⟩, .slice none 0 0]
            simp only [World.size_alloc] at this
            rw [eu]; exact this
          have hRu := (unhide hR).1.on bu
          have xu := hx.on bu hx.lt
          have hou := hide (show u.ownsRow (Bx + 1) 41 11 v i (newsE l) by have := hRu.own; rwa [unhide hll] at this)
          have hsz : Bx + 1 ≤ u.heap.size := by have := xu.lt; omega
          replace hRu := hide hRu
          replace eu := hide eu
          obtain ⟨gc0, gc1, gc2, gc3⟩ := xu.four
          have gf0 := xu.frz 0
          go_wp2_with (at_builtin; rw [str_a i, ← unhide eu]; go_must (refine wpList_append_own _ rfl _ _ 35 rfl (Bx + 1) 41 i0 (.agg #[.string ⟨#[]⟩, .slice none 0 0, .bool false, .bool false, .int .i64 0, .int .i64 0, .int .i64 0, .string ⟨#[]⟩, .string ⟨#[]⟩, .string ⟨#[]⟩, .slice none 0 0]) 11 144 Try.underlying35 hi0 hz0 hz1 hz2 rfl (by decide) v i (newsE l) rfl (unhide hou) ⟨wr.heap.size + 1 + 1, 0, none⟩ 1 1 [.string (alT i).1, .slice (some ⟨wr.heap.size + 1, 0, none⟩) 2 2, .bool false, .bool false, .int .i64 0, .int .i64 0, .int .i64 0, .string ⟨#[]⟩, .string ⟨#[]⟩, .string ⟨#[]⟩, .slice none 0 0] rfl rfl (news_box xe) (by simp [Value.oneCell']) (by unfold maxLen; omega) (by omega) hsz ?_); intro v' u5 hown hgrow hwh; obtain ⟨a5, k5, rfl⟩ := owns_slice hown; have c5 : Box u5 Bx 37 #[v, .int .i64 10, .string ⟨#[]⟩, .bool false] := (hgrow.block _ xu.lt (fun e => by have := ((unhide hou).lt _ e.symm).1; omega)).trans xu; obtain ⟨hh0, hh1, hh2, hh3⟩ := c5.four; have hhf := c5.frz 0; replace hown := hide hown; replace hwh := hide hwh; replace hgrow := hide hgrow)
          have hT5 : ∀ x ∈ l ++ [(elK (m + 1) i, (⟨some ⟨wr.heap.size + 1, 0, none⟩, 2, none, 0⟩ : Pl))], TyIn u5 x := by
            have hgr := fun g e => (owns_lt (unhide hou) (g := g) e).2
            intro x hx'
            rcases List.mem_append.1 hx' with h | h
            · exact ((unhide hRu).ty x h).grown (unhide hgrow) hgr
            · simp only [List.mem_singleton] at h
              subst h
              refine TyIn.grown ⟨rfl, by simp [elK], .inr ⟨_, _, rfl, xt, fun j t ht => ?_⟩⟩ (unhide hgrow) hgr
              match j with
              | 0 => simp [elK] at ht; subst ht; rfl
              | 1 => simp [elK] at ht; subst ht; rfl
              | j + 2 => simp [elK] at ht
          have hR5 : Rw (Bx + 1) u5 (.slice a5 (i + 1) k5) (l ++ [(elK (m + 1) i, (⟨some ⟨wr.heap.size + 1, 0, none⟩, 2, none, 0⟩ : Pl))]) := by
            refine ⟨?_, hT5⟩
            rw [newsE_snoc, List.length_append, unhide hll, unhide eB]
            exact unhide hown
          have hR6 := hR5.box c5 (by decide) (by omega) 0 (.slice a5 (i + 1) k5)
          have b5 : Below w.heap.size w u5 := (hb.trans (bu.mono hb.size)).grown (unhide hgrow) (by have := bu.size; have := hb.size; omega) (fun g e => by have := ((unhide hou).lt g e).1; omega)
          have x6 : Box (u5.setCell ⟨Bx, 0, none⟩ (.slice a5 (i + 1) k5)) Bx 37 #[.slice a5 (i + 1) k5, .int .i64 10, .string ⟨#[]⟩, .bool false] := c5.set 0 _
          have b6 := b5.setCell (p := ⟨Bx, 0, none⟩) hBx (.slice a5 (i + 1) k5)
          have hl6 := hide (show (l ++ [(elK (m + 1) i, (⟨some ⟨wr.heap.size + 1, 0, none⟩, 2, none, 0⟩ : Pl))]).map (·.1) = (List.range (i + 1)).map (elK (m + 1)) by rw [List.map_append, (unhide hR).2, List.range_succ, List.map_append]; rfl)
          clear hT5 hR5
          go_roundw
          case rel => exact ⟨i + 1, by omega, by go_num, ⟨_, _, x6, hide ⟨hR6, unhide hl6⟩⟩, b6⟩
          case measure => simp [intOf]; omega
      · have f1 : ((i : Int) % 2 == 1) = false := by simp; omega
        have eB := hide (show elK (m + 1) i = ⟨alT i, [tx1 116, tx1 117], false, false, .mk d0 []⟩ by simp only [elK]; congr 1; simp; omega)
        obtain ⟨u, eu⟩ : ∃ u, u = ((wr.alloc (.cells #[.int .u8 (97 + i)] 5)).alloc (.cells #[.string ⟨#[116]⟩, .string ⟨#[117]⟩] 9)).alloc (.cells #[.string (alT i).1, .slice (some ⟨wr.heap.size + 1, 0, none⟩) 2 2, .bool false, .bool false, .int .i64 0, .int .i64 0, .int .i64 0, .string ⟨#[]⟩, .string ⟨#[]⟩, .string ⟨#[]⟩, .slice none 0 0] 41) := ⟨_, rfl⟩
        have bu : Below wr.heap.size wr u := by rw [eu]; exact (((Below.refl _ _).alloc (Nat.le_refl _) _).alloc (by simp) _).alloc (by simp; omega) _
        have xt : Box u (wr.heap.size + 1) 9 #[.string ⟨#[116]⟩, .string ⟨#[117]⟩] := by
          have := (Box.new (wr.alloc (.cells #[.int .u8 (97 + i)] 5)) 9 #[.string ⟨#[116]⟩, .string ⟨#[117]⟩]).alloc (.cells #[.string (alT i).1, .slice (some ⟨wr.heap.size + 1, 0, none⟩) 2 2, .bool false, .bool false, .int .i64 0, .int .i64 0, .int .i64 0, .string ⟨#[]⟩, .string ⟨#[]⟩, .string ⟨#[]⟩, .slice none 0 0] 41)
          simp only [World.size_alloc] at this
          rw [eu]; exact this
        have xe : Box u (wr.heap.size + 1 + 1) 41 #[.string (alT i).1, .slice (some ⟨wr.heap.size + 1, 0, none⟩) 2 2, .bool false, .bool false, .int .i64 0, .int .i64 0, .int .i64 0, .string ⟨#[]⟩, .string ⟨#[]⟩, .string ⟨#[]⟩, .slice none 0 0] := by
          have := Box.new ((wr.alloc (.cells #[.int .u8 (97 + i)] 5)).alloc (.cells #[.string ⟨#[116]⟩, .string ⟨#[117]⟩] 9)) 41 #[.string (alT i).1, .slice (some ⟨wr.heap.size + 1, 0, none⟩) 2 2, .bool false, .bool false, .int .i64 0, .int .i64 0, .int .i64 0, .string ⟨#[]⟩, .string ⟨#[]⟩, .string ⟨#[]⟩, .slice none 0 0]
          simp only [World.size_alloc] at this
          rw [eu]; exact this
        have hRu := (unhide hR).1.on bu
        have xu := hx.on bu hx.lt
        have hou := hide (show u.ownsRow (Bx + 1) 41 11 v i (newsE l) by have := hRu.own; rwa [unhide hll] at this)
        have hsz : Bx + 1 ≤ u.heap.size := by have := xu.lt; omega
        replace hRu := hide hRu
        replace eu := hide eu
        obtain ⟨gc0, gc1, gc2, gc3⟩ := xu.four
        have gf0 := xu.frz 0
        go_wp2_with (at_builtin; rw [str_a i, ← unhide eu]; go_must (refine wpList_append_own _ rfl _ _ 35 rfl (Bx + 1) 41 i0 (.agg #[.string ⟨#[]⟩, .slice none 0 0, .bool false, .bool false, .int .i64 0, .int .i64 0, .int .i64 0, .string ⟨#[]⟩, .string ⟨#[]⟩, .string ⟨#[]⟩, .slice none 0 0]) 11 144 Try.underlying35 hi0 hz0 hz1 hz2 rfl (by decide) v i (newsE l) rfl (unhide hou) ⟨wr.heap.size + 1 + 1, 0, none⟩ 1 1 [.string (alT i).1, .slice (some ⟨wr.heap.size + 1, 0, none⟩) 2 2, .bool false, .bool false, .int .i64 0, .int .i64 0, .int .i64 0, .string ⟨#[]⟩, .string ⟨#[]⟩, .string ⟨#[]⟩, .slice none 0 0] rfl rfl (news_box xe) (by simp [Value.oneCell']) (by unfold maxLen; omega) (by omega) hsz ?_); intro v' u5 hown hgrow hwh; obtain ⟨a5, k5, rfl⟩ := owns_slice hown; have c5 : Box u5 Bx 37 #[v, .int .i64 10, .string ⟨#[]⟩, .bool false] := (hgrow.block _ xu.lt (fun e => by have := ((unhide hou).lt _ e.symm).1; omega)).trans xu; obtain ⟨hh0, hh1, hh2, hh3⟩ := c5.four; have hhf := c5.frz 0; replace hown := hide hown; replace hwh := hide hwh; replace hgrow := hide hgrow)
        have hT5 : ∀ x ∈ l ++ [(elK (m + 1) i, (⟨some ⟨wr.heap.size + 1, 0, none⟩, 2, none, 0⟩ : Pl))], TyIn u5 x := by
          have hgr := fun g e => (owns_lt (unhide hou) (g := g) e).2
          intro x hx'
          rcases List.mem_append.1 hx' with h | h
          · exact ((unhide hRu).ty x h).grown (unhide hgrow) hgr
          · simp only [List.mem_singleton] at h
            subst h
            refine TyIn.grown ⟨rfl, by simp [elK], .inr ⟨_, _, rfl, xt, fun j t ht => ?_⟩⟩ (unhide hgrow) hgr
            match j with
            | 0 => simp [elK] at ht; subst ht; rfl
            | 1 => simp [elK] at ht; subst ht; rfl
            | j + 2 => simp [elK] at ht
        have hR5 : Rw (Bx + 1) u5 (.slice a5 (i + 1) k5) (l ++ [(elK (m + 1) i, (⟨some ⟨wr.heap.size + 1, 0, none⟩, 2, none, 0⟩ : Pl))]) := by
          refine ⟨?_, hT5⟩
          rw [newsE_snoc, List.length_append, unhide hll, unhide eB]
          exact unhide hown
        have hR6 := hR5.box c5 (by decide) (by omega) 0 (.slice a5 (i + 1) k5)
        have b5 : Below w.heap.size w u5 := (hb.trans (bu.mono hb.size)).grown (unhide hgrow) (by have := bu.size; have := hb.size; omega) (fun g e => by have := ((unhide hou).lt g e).1; omega)
        have x6 : Box (u5.setCell ⟨Bx, 0, none⟩ (.slice a5 (i + 1) k5)) Bx 37 #[.slice a5 (i + 1) k5, .int .i64 10, .string ⟨#[]⟩, .bool false] := c5.set 0 _
        have b6 := b5.setCell (p := ⟨Bx, 0, none⟩) hBx (.slice a5 (i + 1) k5)
        have hl6 := hide (show (l ++ [(elK (m + 1) i, (⟨some ⟨wr.heap.size + 1, 0, none⟩, 2, none, 0⟩ : Pl))]).map (·.1) = (List.range (i + 1)).map (elK (m + 1)) by rw [List.map_append, (unhide hR).2, List.range_succ, List.map_append]; rfl)
        clear hT5 hR5
        go_roundw
        case rel => exact ⟨i + 1, by omega, by go_num, ⟨_, _, x6, hide ⟨hR6, unhide hl6⟩⟩, b6⟩
        case measure => simp [intOf]; omega
    · have hie : i = m + 1 := by omega
      subst hie
      clear hlt
      have hll := hide (show l.length = m + 1 by have := congrArg List.length (unhide hR).2; simpa using this)
      obtain ⟨a0, c0, e0, hc, hE⟩ := (unhide hR).1.ems (by rw [unhide hll]; omega)
      rw [(unhide hR).2] at e0 hc hE
      have hel : (esK (m + 1)).length = m + 1 := by simp [esK]
      obtain ⟨g, c, e1, hgb, hgl⟩ := owns_form (unhide hR).1.own (by rw [unhide hll]; omega)
      rw [unhide hll] at e1
      subst e1
      rw [show ((List.range (m + 1)).map (elK (m + 1))).length = m + 1 from hel] at e0
      simp only [Value.slice.injEq, true_and] at e0
      obtain ⟨rfl, rfl⟩ := e0
      have cB := pattern_c ⟨esK (m + 1), 10, tx0, false⟩ (some ⟨g, 0, none⟩) c hc wr hE
      rw [show patB ⟨esK (m + 1), 10, tx0, false⟩ = true from rules_b m hm5, ptv hel] at cB
      replace cB := hide cB
      replace hE := hide hE
      replace hel := hide hel
      obtain ⟨hc0, hc1, hc2, hc3⟩ := hx.four
      go_upto_region 9 with fail
      go_wp2_with fail
      refine (unhide cB).mono ?_
      rintro r w5 ⟨rfl, hb5⟩
      clear cB hc0 hc1 hc2 hc3
      have x5 := hx.on hb5 hx.lt
      have hR5 := (unhide hR).1.on hb5
      have hR5 : Rw (Bx + 1) w5 (.slice (some ⟨g, 0, none⟩) l.length c) l := by rw [unhide hll]; exact hR5
      have b5 := hb.trans (hb5.mono hb.size)
      obtain ⟨hc0, hc1, hc2, hc3⟩ := x5.four
      have hm0 : (0 : Int) ≤ m := by omega
      go_upto_region 13 with fail
      rw [unhide hq]
      rcases (by omega : q = 0 ∨ q = 1 ∨ q = 2 ∨ q = 3 ∨ q = 4 ∨ q = 5 ∨ q = 6 ∨ q = 7 ∨ q = 8) with rfl | rfl | rfl | rfl | rfl | rfl | rfl | rfl | rfl
      · obtain ⟨x, hx, hxe⟩ : ∃ x, l[0]? = some x ∧ x.1 = elK (m + 1) 0 := by
          have := congrArg (fun z => z[0]?) (unhide hR).2
          simp only [List.getElem?_map] at this
          rw [List.getElem?_range (by omega)] at this
          simpa using this
        have hy : TyIn w5 ({ x.1 with nt := true }, x.2) := by
          obtain ⟨t1, t2, t3⟩ := hR5.ty x (List.mem_of_getElem? hx)
          exact ⟨t1, t2, t3⟩
        have hS := hR5.store hx ({ x.1 with nt := true }, x.2) 3 (.bool true) (by decide) rfl hy
        have hcell : ∃ z, w5.cell? ⟨g, 0 * 11 + 3, none⟩ = some z := by
          rw [hR5.own.cellAt (0 * 11 + 3) (by rw [unhide hll]; omega)]
          exact ⟨_, List.getElem?_eq_getElem (by rw [newsE_len, unhide hll]; omega)⟩
        obtain ⟨z, hz⟩ := hcell
        have hzf := hR5.own.frozenAt (0 * 11 + 3)
        have b6 := (b5).setCell (p := ⟨g, 0 * 11 + 3, none⟩) (by simp only; omega) (.bool true)
        have x6 := (x5).other ⟨g, 0 * 11 + 3, none⟩ (.bool true) (by simp; omega)
        obtain ⟨w6, ew6⟩ : ∃ w6, w6 = w5.setCell ⟨g, 0 * 11 + 3, none⟩ (.bool true) := ⟨_, rfl⟩
        rw [← ew6] at hS b6 x6
        simp only [Nat.zero_mul, Nat.zero_add] at ew6 hz hzf
        obtain ⟨a6, c6, e6, hc6, hE6⟩ := hS.ems (by rw [List.length_set, unhide hll]; omega)
        have hm6 : (l.set 0 ({ x.1 with nt := true }, x.2)).map (·.1) = (esK (m + 1)).set 0 { elK (m + 1) 0 with nt := true } := by rw [List.map_set, (unhide hR).2, ← hxe]; rfl
        rw [hm6] at e6 hc6 hE6
        have hel : ((esK (m + 1)).set 0 { elK (m + 1) 0 with nt := true }).length = m + 1 := by simp [esK]
        rw [hel] at e6
        rw [unhide hll] at e6
        simp only [Value.slice.injEq, true_and] at e6
        obtain ⟨rfl, rfl⟩ := e6
        have cP := pattern_c ⟨(esK (m + 1)).set 0 { elK (m + 1) 0 with nt := true }, 10, tx0, false⟩ (some ⟨g, 0, none⟩) c hc6 w6 hE6
        rw [rules_0 m hm5, ptv hel] at cP
        replace cP := hide cP
        replace hS := hide hS
        replace hy := hide hy
        replace hE6 := hide hE6
        replace hR5 := hide hR5
        replace hm6 := hide hm6
        replace hxe := hide hxe
        replace hel := hide hel
        replace hx := hide hx
        replace ew6 := hide ew6
        go_upto_region 36 with fail
        rw [← unhide ew6]
        clear ew6 hc0 hc1 hc2 hc3 hz hzf
        obtain ⟨hc0, hc1, hc2, hc3⟩ := x6.four
        go_wp2_with fail
        refine (unhide cP).mono ?_
        rintro r w7 ⟨rfl, hb7⟩
        go_wp2_with fail
        go_ret
        exact ⟨rfl, b6.trans (hb7.mono b6.size)⟩
      · obtain ⟨x, hx, hxe⟩ : ∃ x, l[m]? = some x ∧ x.1 = elK (m + 1) m := by
          have := congrArg (fun z => z[m]?) (unhide hR).2
          simp only [List.getElem?_map] at this
          rw [List.getElem?_range (by omega)] at this
          simpa using this
        have hy : TyIn w5 ({ x.1 with nt := true }, x.2) := by
          obtain ⟨t1, t2, t3⟩ := hR5.ty x (List.mem_of_getElem? hx)
          exact ⟨t1, t2, t3⟩
        have hS := hR5.store hx ({ x.1 with nt := true }, x.2) 3 (.bool true) (by decide) rfl hy
        have hcell : ∃ z, w5.cell? ⟨g, m * 11 + 3, none⟩ = some z := by
          rw [hR5.own.cellAt (m * 11 + 3) (by rw [unhide hll]; omega)]
          exact ⟨_, List.getElem?_eq_getElem (by rw [newsE_len, unhide hll]; omega)⟩
        obtain ⟨z, hz⟩ := hcell
        have hzf := hR5.own.frozenAt (m * 11 + 3)
        have b6 := (b5).setCell (p := ⟨g, m * 11 + 3, none⟩) (by simp only; omega) (.bool true)
        have x6 := (x5).other ⟨g, m * 11 + 3, none⟩ (.bool true) (by simp; omega)
        obtain ⟨w6, ew6⟩ : ∃ w6, w6 = w5.setCell ⟨g, m * 11 + 3, none⟩ (.bool true) := ⟨_, rfl⟩
        rw [← ew6] at hS b6 x6
        obtain ⟨a6, c6, e6, hc6, hE6⟩ := hS.ems (by rw [List.length_set, unhide hll]; omega)
        have hm6 : (l.set m ({ x.1 with nt := true }, x.2)).map (·.1) = (esK (m + 1)).set m { elK (m + 1) m with nt := true } := by rw [List.map_set, (unhide hR).2, ← hxe]; rfl
        rw [hm6] at e6 hc6 hE6
        have hel : ((esK (m + 1)).set m { elK (m + 1) m with nt := true }).length = m + 1 := by simp [esK]
        rw [hel] at e6
        rw [unhide hll] at e6
        simp only [Value.slice.injEq, true_and] at e6
        obtain ⟨rfl, rfl⟩ := e6
        have cP := pattern_c ⟨(esK (m + 1)).set m { elK (m + 1) m with nt := true }, 10, tx0, false⟩ (some ⟨g, 0, none⟩) c hc6 w6 hE6
        rw [rules_1 m hm5, ptv hel] at cP
        replace cP := hide cP
        replace hS := hide hS
        replace hy := hide hy
        replace hE6 := hide hE6
        replace hR5 := hide hR5
        replace hm6 := hide hm6
        replace hxe := hide hxe
        replace hel := hide hel
        replace hx := hide hx
        replace ew6 := hide ew6
        go_upto_region 36 with fail
        rw [← unhide ew6]
        clear ew6 hc0 hc1 hc2 hc3 hz hzf
        obtain ⟨hc0, hc1, hc2, hc3⟩ := x6.four
        go_wp2_with fail
        refine (unhide cP).mono ?_
        rintro r w7 ⟨rfl, hb7⟩
        go_wp2_with fail
        go_ret
        exact ⟨rfl, b6.trans (hb7.mono b6.size)⟩
      · obtain ⟨w5', ew5⟩ : ∃ w5', w5' = w5.alloc (.cells #[.string ⟨#[117]⟩, .string ⟨#[116]⟩] 9) := ⟨_, rfl⟩
        have b5' : Below w5.heap.size w5 w5' := by rw [ew5]; exact (Below.refl _ _).alloc (Nat.le_refl _) _
        have xt : Box w5' w5.heap.size 9 #[.string ⟨#[117]⟩, .string ⟨#[116]⟩] := by rw [ew5]; exact Box.new _ _ _
        have e5' : w5'.heap.size = w5.heap.size + 1 := by rw [ew5]; simp
        obtain ⟨x, hx, hxe⟩ : ∃ x, l[0]? = some x ∧ x.1 = elK (m + 1) 0 := by
          have := congrArg (fun z => z[0]?) (unhide hR).2
          simp only [List.getElem?_map] at this
          rw [List.getElem?_range (by omega)] at this
          simpa using this
        have hy : TyIn w5' ({ x.1 with ts := [tx1 117, tx1 116] }, { x.2 with ta := some ⟨w5.heap.size, 0, none⟩, tc := 2 }) := by
          obtain ⟨t1, t2, t3⟩ := (hR5.on b5').ty x (List.mem_of_getElem? hx)
          refine ⟨t1, show 2 ≤ 10 by decide, .inr ⟨_, _, rfl, xt, fun j t ht => ?_⟩⟩
          match j with
          | 0 => simp at ht; subst ht; rfl
          | 1 => simp at ht; subst ht; rfl
          | j + 2 => simp at ht
        have hS := (hR5.on b5').store hx ({ x.1 with ts := [tx1 117, tx1 116] }, { x.2 with ta := some ⟨w5.heap.size, 0, none⟩, tc := 2 }) 1 (.slice (some ⟨w5.heap.size, 0, none⟩) 2 2) (by decide) rfl hy
        have hcell : ∃ z, w5'.cell? ⟨g, 0 * 11 + 1, none⟩ = some z := by
          rw [(hR5.on b5').own.cellAt (0 * 11 + 1) (by rw [unhide hll]; omega)]
          exact ⟨_, List.getElem?_eq_getElem (by rw [newsE_len, unhide hll]; omega)⟩
        obtain ⟨z, hz⟩ := hcell
        have hzf := (hR5.on b5').own.frozenAt (0 * 11 + 1)
        have b6 := ((b5.trans (b5'.mono b5.size))).setCell (p := ⟨g, 0 * 11 + 1, none⟩) (by simp only; omega) (.slice (some ⟨w5.heap.size, 0, none⟩) 2 2)
        have x6 := ((x5.on b5' x5.lt)).other ⟨g, 0 * 11 + 1, none⟩ (.slice (some ⟨w5.heap.size, 0, none⟩) 2 2) (by simp; omega)
        obtain ⟨w6, ew6⟩ : ∃ w6, w6 = w5'.setCell ⟨g, 0 * 11 + 1, none⟩ (.slice (some ⟨w5.heap.size, 0, none⟩) 2 2) := ⟨_, rfl⟩
        rw [← ew6] at hS b6 x6
        simp only [Nat.zero_mul, Nat.zero_add] at ew6 hz hzf
        obtain ⟨a6, c6, e6, hc6, hE6⟩ := hS.ems (by rw [List.length_set, unhide hll]; omega)
        have hm6 : (l.set 0 ({ x.1 with ts := [tx1 117, tx1 116] }, { x.2 with ta := some ⟨w5.heap.size, 0, none⟩, tc := 2 })).map (·.1) = (esK (m + 1)).set 0 { elK (m + 1) 0 with ts := [tx1 117, tx1 116] } := by rw [List.map_set, (unhide hR).2, ← hxe]; rfl
        rw [hm6] at e6 hc6 hE6
        have hel : ((esK (m + 1)).set 0 { elK (m + 1) 0 with ts := [tx1 117, tx1 116] }).length = m + 1 := by simp [esK]
        rw [hel] at e6
        rw [unhide hll] at e6
        simp only [Value.slice.injEq, true_and] at e6
        obtain ⟨rfl, rfl⟩ := e6
        have cP := pattern_c ⟨(esK (m + 1)).set 0 { elK (m + 1) 0 with ts := [tx1 117, tx1 116] }, 10, tx0, false⟩ (some ⟨g, 0, none⟩) c hc6 w6 hE6
        rw [rules_2 m hm5, ptv hel] at cP
        replace cP := hide cP
        replace hS := hide hS
        replace hy := hide hy
        replace hE6 := hide hE6
        replace hR5 := hide hR5
        replace hm6 := hide hm6
        replace hxe := hide hxe
        replace hel := hide hel
        replace hx := hide hx
        rw [ew5] at hz hzf
        replace ew5 := hide ew5
        replace ew6 := hide ew6
        go_upto_region 36 with fail
        rw [← unhide ew5]
        rw [← unhide ew6]
        clear ew6 ew5 hc0 hc1 hc2 hc3 hz hzf
        obtain ⟨hc0, hc1, hc2, hc3⟩ := x6.four
        go_wp2_with fail
        refine (unhide cP).mono ?_
        rintro r w7 ⟨rfl, hb7⟩
        go_wp2_with fail
        go_ret
        exact ⟨rfl, b6.trans (hb7.mono b6.size)⟩
      · by_cases hm0' : m = 0
        · have e3 : ¬ (1 : Int) < (m : Int) + 1 := by omega
          obtain ⟨x, hx, hxe⟩ : ∃ x, l[0]? = some x ∧ x.1 = elK (m + 1) 0 := by
            have := congrArg (fun z => z[0]?) (unhide hR).2
            simp only [List.getElem?_map] at this
            rw [List.getElem?_range (by omega)] at this
            simpa using this
          have hy : TyIn w5 ({ x.1 with al := t2 97 98 }, x.2) := by
            obtain ⟨t1, t2, t3⟩ := hR5.ty x (List.mem_of_getElem? hx)
            exact ⟨t1, t2, t3⟩
          have hS := hR5.store hx ({ x.1 with al := t2 97 98 }, x.2) 0 (.string ⟨#[97, 98]⟩) (by decide) rfl hy
          have hcell : ∃ z, w5.cell? ⟨g, 0 * 11 + 0, none⟩ = some z := by
            rw [hR5.own.cellAt (0 * 11 + 0) (by rw [unhide hll]; omega)]
            exact ⟨_, List.getElem?_eq_getElem (by rw [newsE_len, unhide hll]; omega)⟩
          obtain ⟨z, hz⟩ := hcell
          have hzf := hR5.own.frozenAt (0 * 11 + 0)
          have b6 := (b5).setCell (p := ⟨g, 0 * 11 + 0, none⟩) (by simp only; omega) (.string ⟨#[97, 98]⟩)
          have x6 := (x5).other ⟨g, 0 * 11 + 0, none⟩ (.string ⟨#[97, 98]⟩) (by simp; omega)
          obtain ⟨w6, ew6⟩ : ∃ w6, w6 = w5.setCell ⟨g, 0 * 11 + 0, none⟩ (.string ⟨#[97, 98]⟩) := ⟨_, rfl⟩
          rw [← ew6] at hS b6 x6
          simp only [Nat.zero_mul, Nat.zero_add] at ew6 hz hzf
          obtain ⟨a6, c6, e6, hc6, hE6⟩ := hS.ems (by rw [List.length_set, unhide hll]; omega)
          have hm6 : (l.set 0 ({ x.1 with al := t2 97 98 }, x.2)).map (·.1) = (esK (m + 1)).set 0 { elK (m + 1) 0 with al := t2 97 98 } := by rw [List.map_set, (unhide hR).2, ← hxe]; rfl
          rw [hm6] at e6 hc6 hE6
          have hel : ((esK (m + 1)).set 0 { elK (m + 1) 0 with al := t2 97 98 }).length = m + 1 := by simp [esK]
          rw [hel] at e6
          rw [unhide hll] at e6
          simp only [Value.slice.injEq, true_and] at e6
          obtain ⟨rfl, rfl⟩ := e6
          have cP := pattern_c ⟨(esK (m + 1)).set 0 { elK (m + 1) 0 with al := t2 97 98 }, 10, tx0, false⟩ (some ⟨g, 0, none⟩) c hc6 w6 hE6
          rw [rules_3 m hm5, ptv hel, decide_eq_true hm0'] at cP
          clear hm0'
          replace cP := hide cP
          replace hS := hide hS
          replace hy := hide hy
          replace hE6 := hide hE6
          replace hR5 := hide hR5
          replace hm6 := hide hm6
          replace hxe := hide hxe
          replace hel := hide hel
          replace hx := hide hx
          replace ew6 := hide ew6
          go_upto_region 36 with fail
          rw [← unhide ew6]
          clear ew6 hc0 hc1 hc2 hc3 hz hzf
          obtain ⟨hc0, hc1, hc2, hc3⟩ := x6.four
          go_wp2_with fail
          refine (unhide cP).mono ?_
          rintro r w7 ⟨rfl, hb7⟩
          go_wp2_with fail
          go_ret
          exact ⟨rfl, b6.trans (hb7.mono b6.size)⟩
        · have e3 : (1 : Int) < (m : Int) + 1 := by omega
          obtain ⟨x, hx, hxe⟩ : ∃ x, l[0]? = some x ∧ x.1 = elK (m + 1) 0 := by
            have := congrArg (fun z => z[0]?) (unhide hR).2
            simp only [List.getElem?_map] at this
            rw [List.getElem?_range (by omega)] at this
            simpa using this
          have hy : TyIn w5 ({ x.1 with al := t2 97 98 }, x.2) := by
            obtain ⟨t1, t2, t3⟩ := hR5.ty x (List.mem_of_getElem? hx)
            exact ⟨t1, t2, t3⟩
          have hS := hR5.store hx ({ x.1 with al := t2 97 98 }, x.2) 0 (.string ⟨#[97, 98]⟩) (by decide) rfl hy
          have hcell : ∃ z, w5.cell? ⟨g, 0 * 11 + 0, none⟩ = some z := by
            rw [hR5.own.cellAt (0 * 11 + 0) (by rw [unhide hll]; omega)]
            exact ⟨_, List.getElem?_eq_getElem (by rw [newsE_len, unhide hll]; omega)⟩
          obtain ⟨z, hz⟩ := hcell
          have hzf := hR5.own.frozenAt (0 * 11 + 0)
          have b6 := (b5).setCell (p := ⟨g, 0 * 11 + 0, none⟩) (by simp only; omega) (.string ⟨#[97, 98]⟩)
          have x6 := (x5).other ⟨g, 0 * 11 + 0, none⟩ (.string ⟨#[97, 98]⟩) (by simp; omega)
          obtain ⟨w6, ew6⟩ : ∃ w6, w6 = w5.setCell ⟨g, 0 * 11 + 0, none⟩ (.string ⟨#[97, 98]⟩) := ⟨_, rfl⟩
          rw [← ew6] at hS b6 x6
          simp only [Nat.zero_mul, Nat.zero_add] at ew6 hz hzf
          obtain ⟨a6, c6, e6, hc6, hE6⟩ := hS.ems (by rw [List.length_set, unhide hll]; omega)
          have hm6 : (l.set 0 ({ x.1 with al := t2 97 98 }, x.2)).map (·.1) = (esK (m + 1)).set 0 { elK (m + 1) 0 with al := t2 97 98 } := by rw [List.map_set, (unhide hR).2, ← hxe]; rfl
          rw [hm6] at e6 hc6 hE6
          have hel : ((esK (m + 1)).set 0 { elK (m + 1) 0 with al := t2 97 98 }).length = m + 1 := by simp [esK]
          rw [hel] at e6
          rw [unhide hll] at e6
          simp only [Value.slice.injEq, true_and] at e6
          obtain ⟨rfl, rfl⟩ := e6
          have cP := pattern_c ⟨(esK (m + 1)).set 0 { elK (m + 1) 0 with al := t2 97 98 }, 10, tx0, false⟩ (some ⟨g, 0, none⟩) c hc6 w6 hE6
          rw [rules_3 m hm5, ptv hel, decide_eq_false hm0'] at cP
          clear hm0'
          replace cP := hide cP
          replace hS := hide hS
          replace hy := hide hy
          replace hE6 := hide hE6
          replace hR5 := hide hR5
          replace hm6 := hide hm6
          replace hxe := hide hxe
          replace hel := hide hel
          replace hx := hide hx
          replace ew6 := hide ew6
          go_upto_region 36 with fail
          rw [← unhide ew6]
          clear ew6 hc0 hc1 hc2 hc3 hz hzf
          obtain ⟨hc0, hc1, hc2, hc3⟩ := x6.four
          go_wp2_with fail
          refine (unhide cP).mono ?_
          rintro r w7 ⟨rfl, hb7⟩
          go_wp2_with fail
          go_ret
          exact ⟨rfl, b6.trans (hb7.mono b6.size)⟩
      · have b6 := b5.setCell (p := ⟨Bx, 1, none⟩) hBx (.int .i64 1001)
        have x6 := x5.set 1 (.int .i64 1001)
        have hS := hR5.box x5 (by decide) (by omega) 1 (.int .i64 1001)
        obtain ⟨w6, ew6⟩ : ∃ w6, w6 = w5.setCell ⟨Bx, 1, none⟩ (.int .i64 1001) := ⟨_, rfl⟩
        rw [← ew6] at hS b6 x6
        obtain ⟨a6, c6, e6, hc6, hE6⟩ := hS.ems (by rw [unhide hll]; omega)
        rw [(unhide hR).2] at e6 hc6 hE6
        have hel : (esK (m + 1)).length = m + 1 := by simp [esK]
        rw [show ((List.range (m + 1)).map (elK (m + 1))).length = m + 1 from hel, unhide hll] at e6
        simp only [Value.slice.injEq, true_and] at e6
        obtain ⟨rfl, rfl⟩ := e6
        have cP := pattern_c ⟨esK (m + 1), 1001, tx0, false⟩ (some ⟨g, 0, none⟩) c hc6 w6 hE6
        rw [show patB ⟨esK (m + 1), 1001, tx0, false⟩ = false from rules_4 m hm5, ptv hel] at cP
        replace cP := hide cP
        replace hS := hide hS
        replace hE6 := hide hE6
        replace hR5 := hide hR5
        replace hel := hide hel
        have hf := x5.frz 1
        replace ew6 := hide ew6
        go_upto_region 36 with fail
        rw [← unhide ew6]
        clear ew6 hc0 hc1 hc2 hc3 hf
        obtain ⟨hc0, hc1, hc2, hc3⟩ := x6.four
        go_wp2_with fail
        refine (unhide cP).mono ?_
        rintro r w7 ⟨rfl, hb7⟩
        go_wp2_with fail
        go_ret
        exact ⟨rfl, b6.trans (hb7.mono b6.size)⟩
      · have b6 := b5.setCell (p := ⟨Bx, 2, none⟩) hBx (.string ⟨#[66]⟩)
        have x6 := x5.set 2 (.string ⟨#[66]⟩)
        have hS := hR5.box x5 (by decide) (by omega) 2 (.string ⟨#[66]⟩)
        obtain ⟨w6, ew6⟩ : ∃ w6, w6 = w5.setCell ⟨Bx, 2, none⟩ (.string ⟨#[66]⟩) := ⟨_, rfl⟩
        rw [← ew6] at hS b6 x6
        obtain ⟨a6, c6, e6, hc6, hE6⟩ := hS.ems (by rw [unhide hll]; omega)
        rw [(unhide hR).2] at e6 hc6 hE6
        have hel : (esK (m + 1)).length = m + 1 := by simp [esK]
        rw [show ((List.range (m + 1)).map (elK (m + 1))).length = m + 1 from hel, unhide hll] at e6
        simp only [Value.slice.injEq, true_and] at e6
        obtain ⟨rfl, rfl⟩ := e6
        have cP := pattern_c ⟨esK (m + 1), 10, tx1 66, false⟩ (some ⟨g, 0, none⟩) c hc6 w6 hE6
        rw [show patB ⟨esK (m + 1), 10, tx1 66, false⟩ = false from rules_5 m hm5, ptv hel] at cP
        replace cP := hide cP
        replace hS := hide hS
        replace hE6 := hide hE6
        replace hR5 := hide hR5
        replace hel := hide hel
        have hf := x5.frz 2
        replace ew6 := hide ew6
        go_upto_region 36 with fail
        rw [← unhide ew6]
        clear ew6 hc0 hc1 hc2 hc3 hf
        obtain ⟨hc0, hc1, hc2, hc3⟩ := x6.four
        go_wp2_with fail
        refine (unhide cP).mono ?_
        rintro r w7 ⟨rfl, hb7⟩
        go_wp2_with fail
        go_ret
        exact ⟨rfl, b6.trans (hb7.mono b6.size)⟩
      · obtain ⟨x, hx, hxe⟩ : ∃ x, l[0]? = some x ∧ x.1 = elK (m + 1) 0 := by
          have := congrArg (fun z => z[0]?) (unhide hR).2
          simp only [List.getElem?_map] at this
          rw [List.getElem?_range (by omega)] at this
          simpa using this
        have hy : TyIn w5 ({ x.1 with ts := [] }, { x.2 with ta := none, tc := 0 }) := by
          obtain ⟨t1, t2, t3⟩ := hR5.ty x (List.mem_of_getElem? hx)
          exact ⟨t1, Nat.zero_le _, .inl rfl⟩
        have hS := hR5.store hx ({ x.1 with ts := [] }, { x.2 with ta := none, tc := 0 }) 1 (.slice none 0 0) (by decide) rfl hy
        have hcell : ∃ z, w5.cell? ⟨g, 0 * 11 + 1, none⟩ = some z := by
          rw [hR5.own.cellAt (0 * 11 + 1) (by rw [unhide hll]; omega)]
          exact ⟨_, List.getElem?_eq_getElem (by rw [newsE_len, unhide hll]; omega)⟩
        obtain ⟨z, hz⟩ := hcell
        have hzf := hR5.own.frozenAt (0 * 11 + 1)
        have b6 := (b5).setCell (p := ⟨g, 0 * 11 + 1, none⟩) (by simp only; omega) (.slice none 0 0)
        have x6 := (x5).other ⟨g, 0 * 11 + 1, none⟩ (.slice none 0 0) (by simp; omega)
        obtain ⟨w6, ew6⟩ : ∃ w6, w6 = w5.setCell ⟨g, 0 * 11 + 1, none⟩ (.slice none 0 0) := ⟨_, rfl⟩
        rw [← ew6] at hS b6 x6
        simp only [Nat.zero_mul, Nat.zero_add] at ew6 hz hzf
        obtain ⟨a6, c6, e6, hc6, hE6⟩ := hS.ems (by rw [List.length_set, unhide hll]; omega)
        have hm6 : (l.set 0 ({ x.1 with ts := [] }, { x.2 with ta := none, tc := 0 })).map (·.1) = (esK (m + 1)).set 0 { elK (m + 1) 0 with ts := [] } := by rw [List.map_set, (unhide hR).2, ← hxe]; rfl
        rw [hm6] at e6 hc6 hE6
        have hel : ((esK (m + 1)).set 0 { elK (m + 1) 0 with ts := [] }).length = m + 1 := by simp [esK]
        rw [hel] at e6
        rw [unhide hll] at e6
        simp only [Value.slice.injEq, true_and] at e6
        obtain ⟨rfl, rfl⟩ := e6
        have cP := pattern_c ⟨(esK (m + 1)).set 0 { elK (m + 1) 0 with ts := [] }, 10, tx0, false⟩ (some ⟨g, 0, none⟩) c hc6 w6 hE6
        rw [rules_6 m hm5, ptv hel] at cP
        replace cP := hide cP
        replace hS := hide hS
        replace hy := hide hy
        replace hE6 := hide hE6
        replace hR5 := hide hR5
        replace hm6 := hide hm6
        replace hxe := hide hxe
        replace hel := hide hel
        replace hx := hide hx
        replace ew6 := hide ew6
        go_upto_region 36 with fail
        rw [← unhide ew6]
        clear ew6 hc0 hc1 hc2 hc3 hz hzf
        obtain ⟨hc0, hc1, hc2, hc3⟩ := x6.four
        go_wp2_with fail
        refine (unhide cP).mono ?_
        rintro r w7 ⟨rfl, hb7⟩
        go_wp2_with fail
        go_ret
        exact ⟨rfl, b6.trans (hb7.mono b6.size)⟩
      · obtain ⟨x, hx, hxe⟩ : ∃ x, l[0]? = some x ∧ x.1 = elK (m + 1) 0 := by
          have := congrArg (fun z => z[0]?) (unhide hR).2
          simp only [List.getElem?_map] at this
          rw [List.getElem?_range (by omega)] at this
          simpa using this
        have hy : TyIn w5 ({ x.1 with pl := true }, x.2) := by
          obtain ⟨t1, t2, t3⟩ := hR5.ty x (List.mem_of_getElem? hx)
          exact ⟨t1, t2, t3⟩
        have hS := hR5.store hx ({ x.1 with pl := true }, x.2) 2 (.bool true) (by decide) rfl hy
        have hcell : ∃ z, w5.cell? ⟨g, 0 * 11 + 2, none⟩ = some z := by
          rw [hR5.own.cellAt (0 * 11 + 2) (by rw [unhide hll]; omega)]
          exact ⟨_, List.getElem?_eq_getElem (by rw [newsE_len, unhide hll]; omega)⟩
        obtain ⟨z, hz⟩ := hcell
        have hzf := hR5.own.frozenAt (0 * 11 + 2)
        have b6 := (b5).setCell (p := ⟨g, 0 * 11 + 2, none⟩) (by simp only; omega) (.bool true)
        have x6 := (x5).other ⟨g, 0 * 11 + 2, none⟩ (.bool true) (by simp; omega)
        obtain ⟨w6, ew6⟩ : ∃ w6, w6 = w5.setCell ⟨g, 0 * 11 + 2, none⟩ (.bool true) := ⟨_, rfl⟩
        rw [← ew6] at hS b6 x6
        simp only [Nat.zero_mul, Nat.zero_add] at ew6 hz hzf
        obtain ⟨a6, c6, e6, hc6, hE6⟩ := hS.ems (by rw [List.length_set, unhide hll]; omega)
        have hm6 : (l.set 0 ({ x.1 with pl := true }, x.2)).map (·.1) = (esK (m + 1)).set 0 { elK (m + 1) 0 with pl := true } := by rw [List.map_set, (unhide hR).2, ← hxe]; rfl
        rw [hm6] at e6 hc6 hE6
        have hel : ((esK (m + 1)).set 0 { elK (m + 1) 0 with pl := true }).length = m + 1 := by simp [esK]
        rw [hel] at e6
        rw [unhide hll] at e6
        simp only [Value.slice.injEq, true_and] at e6
        obtain ⟨rfl, rfl⟩ := e6
        have cP := pattern_c ⟨(esK (m + 1)).set 0 { elK (m + 1) 0 with pl := true }, 10, tx0, false⟩ (some ⟨g, 0, none⟩) c hc6 w6 hE6
        rw [rules_7 m hm5, ptv hel] at cP
        replace cP := hide cP
        replace hS := hide hS
        replace hy := hide hy
        replace hE6 := hide hE6
        replace hR5 := hide hR5
        replace hm6 := hide hm6
        replace hxe := hide hxe
        replace hel := hide hel
        replace hx := hide hx
        replace ew6 := hide ew6
        go_upto_region 36 with fail
        rw [← unhide ew6]
        clear ew6 hc0 hc1 hc2 hc3 hz hzf
        obtain ⟨hc0, hc1, hc2, hc3⟩ := x6.four
        go_wp2_with fail
        refine (unhide cP).mono ?_
        rintro r w7 ⟨rfl, hb7⟩
        go_wp2_with fail
        go_ret
        exact ⟨rfl, b6.trans (hb7.mono b6.size)⟩
      · have b6 := b5.setCell (p := ⟨Bx, 3, none⟩) hBx (.bool true)
        have x6 := x5.set 3 (.bool true)
        have hS := hR5.box x5 (by decide) (by omega) 3 (.bool true)
        obtain ⟨w6, ew6⟩ : ∃ w6, w6 = w5.setCell ⟨Bx, 3, none⟩ (.bool true) := ⟨_, rfl⟩
        rw [← ew6] at hS b6 x6
        obtain ⟨a6, c6, e6, hc6, hE6⟩ := hS.ems (by rw [unhide hll]; omega)
        rw [(unhide hR).2] at e6 hc6 hE6
        have hel : (esK (m + 1)).length = m + 1 := by simp [esK]
        rw [show ((List.range (m + 1)).map (elK (m + 1))).length = m + 1 from hel, unhide hll] at e6
        simp only [Value.slice.injEq, true_and] at e6
        obtain ⟨rfl, rfl⟩ := e6
        have cP := pattern_c ⟨esK (m + 1), 10, tx0, true⟩ (some ⟨g, 0, none⟩) c hc6 w6 hE6
        rw [show patB ⟨esK (m + 1), 10, tx0, true⟩ = true from rules_8 m hm5, ptv hel] at cP
        replace cP := hide cP
        replace hS := hide hS
        replace hE6 := hide hE6
        replace hR5 := hide hR5
        replace hel := hide hel
        have hf := x5.frz 3
        replace ew6 := hide ew6
        go_upto_region 36 with fail
        rw [← unhide ew6]
        clear ew6 hc0 hc1 hc2 hc3 hf
        obtain ⟨hc0, hc1, hc2, hc3⟩ := x6.four
        go_wp2_with fail
        refine (unhide cP).mono ?_
        rintro r w7 ⟨rfl, hb7⟩
        go_wp2_with fail
        go_ret
        exact ⟨rfl, b6.trans (hb7.mono b6.size)⟩

end Go.Proofs.Ytbmgfibadpffgaa
