/-
  What the document's NewChain makes: a chain, or an error's number; for every schema and row of at most 30 changes, in whatever world; nothing that lay is turned.
  The walk of ChainNews: true for every schema and row of changes, in whatever world where the library's variable stands as its text lays it; nothing that lay is turned.
-/
import Derived.Test.YtcjpaldijngnpaaGreatDoorRefAddC
import Derived.Test.YtcjpaldijngnpaaGreatDoorChNew
import Derived.Test.YtcjpaldijngnpaaGreatDoorRefSch
import Derived.Test.YtcjpaldijngnpaaGreatDoorLawParts
import Derived.Test.YtcjpaldijngnpaaGreatDoorRefSame
namespace Go.Proofs.YtcjpaldijngnpaaGreatDoor
open Go.RowKit Go.Shelf

/-- What NewChain leaves. -/
def RNewLeft (r : Int) (n : Nat) (ts : List Ty) (ls : List Ch) (e : Ending) (W : World) : Prop :=
  (r = 0 ∧ ∃ (Bp : Nat) (sa la : Option Addr) (sc lc : Nat) (xs : List Sw), e = .returned (.tuple #[.pointer (some ⟨Bp, 0, none⟩), .int .i64 0]) ∧ n ≤ Bp ∧ ls.length ≤ 20 ∧ RCh W.heap.size W Bp sa la sc lc xs ts ls) ∨ (r ≠ 0 ∧ e = .returned (.tuple #[.pointer none, .int .i64 r]))

set_option maxRecDepth 100000 in
set_option maxHeartbeats 8000000 in
theorem rnew_c (a al : Option Addr) (cap capl : Nat) (ts : List Ty) (ls : List Ch) (hm : ts.length ≤ maxLen) (hl : ls.length ≤ 30) (w : World) (hT : Typs w.heap.size w a ts) (hL : Chs w.heap.size w al ls) :
    Calls Tryz.prog 9 #[.agg #[.slice a ts.length cap], .slice al ls.length capl] w fun e w' => Below w.heap.size w w' ∧ Hid ((¬ Sch ts ∧ RNewLeft 10 w.heap.size ts ls e w') ∨ (Sch ts ∧ RNewLeft (addAll ts [] ls) w.heap.size ts ls e w')) := by
  obtain ⟨W0, hW0⟩ : ∃ W0, W0 = w.alloc (.cells #[.slice a ts.length cap] 24) := ⟨_, rfl⟩
  have b0 : Below w.heap.size w W0 := by rw [hW0]; exact (Below.refl _ _).alloc (Nat.le_refl _) _
  have x2 : Box W0 w.heap.size 24 #[.slice a ts.length cap] := by rw [hW0]; exact Box.new _ _ _
  have T0 := hT.on b0
  have hW0' := hide hW0
  clear hW0
  have hs := x2.one.1
  have cI := hide (refSch_c a cap ts hm W0 T0)
  go_enter Tryz.func9, Tryz.ntmps9
  go_upto_region 1 with fail
  rw [← unhide hW0']
  go_wp2_with fail
  refine (unhide cI).mono ?_
  rintro e w1 ⟨B, rfl, hb1, hB⟩
  clear cI hs
  have bw1 := b0.trans (hb1.mono b0.size)
  cases B with
  | false =>
    go_wp2_with fail
    refine bodyPost_ret (v := .tuple #[.pointer none, .int .i64 10]) (by simp [results, Tryz.results9, go_sem]) rfl ?_
    exact ⟨bw1, hide (.inl ⟨fun h => Bool.noConfusion ((unhide hB).2 h), .inr ⟨by decide, rfl⟩⟩)⟩
  | true =>
    have hS := (unhide hB).1 rfl
    clear hB
    have hs := (x2.on hb1 x2.lt).one.1
    have cC := hide (copied_c a cap ts hS.1 (sch_hk5 hS) w1 (T0.on hb1))
    go_wp2_with fail
    refine (unhide cC).mono ?_
    rintro e w2 ⟨v2, ys, rfl, ⟨hys, hown⟩, hrow, hb2, -⟩
    clear cC hs
    obtain ⟨a2, c2, rfl, hT2⟩ := typs_of_owns hrow hown (fun x hx => sch_max hS _ (by rw [← hys]; exact List.mem_map_of_mem hx))
    rw [hys] at hT2
    have hyl : ys.length = ts.length := by rw [← hys, List.length_map]
    rw [hyl]
    clear hown hrow hys hyl
    obtain ⟨w3, hw3⟩ : ∃ w3, w3 = (w2.alloc (.cells #[.slice a2 ts.length c2] 24)).alloc (.cells #[.slice (some ⟨w2.heap.size, 0, none⟩) 1 1, .slice none 0 0] 49) := ⟨_, rfl⟩
    have b23 : Below w2.heap.size w2 w3 := by rw [hw3]; exact ((Below.refl _ _).alloc (Nat.le_refl _) _).alloc (by simp) _
    have v5 : Box w3 w2.heap.size 24 #[.slice a2 ts.length c2] := by rw [hw3]; exact (Box.new w2 24 #[.slice a2 ts.length c2]).alloc _
    have v6 : Box w3 (w2.heap.size + 1) 49 #[.slice (some ⟨w2.heap.size, 0, none⟩) 1 1, .slice none 0 0] := by
      have := Box.new (w2.alloc (.cells #[.slice a2 ts.length c2] 24)) 49 #[.slice (some ⟨w2.heap.size, 0, none⟩) 1 1, .slice none 0 0]
      simp only [World.size_alloc] at this
      rw [hw3]; exact this
    go_upto_region 4 with fail
    rw [← hw3]
    clear hw3
    have bw2 := bw1.trans (hb2.mono bw1.size)
    have bw3 := bw2.trans (b23.mono bw2.size)
    have C3 : RCh w3.heap.size w3 (w2.heap.size + 1) (some ⟨w2.heap.size, 0, none⟩) none 1 0 [(ts, a2, c2)] ts [] := by
      refine ⟨v6, v6.lt, rfl, ⟨rfl, .inl ⟨w2.heap.size, 0, rfl, v5.lt, fun j u hu => ?_⟩⟩, fun x hx => ?_, ⟨rfl, .inr ⟨rfl, rfl⟩⟩⟩
      · rw [Nat.zero_add]
        rcases j with _ | j
        · cases hu; exact v5.at 0 rfl
        · simp [newsS] at hu
      · rw [List.mem_singleton] at hx
        subst hx
        exact hT2.on b23
    replace C3 := hide (show ∃ (sa la : Option Addr) (sc lc : Nat) (xs : List Sw), RCh w3.heap.size w3 (w2.heap.size + 1) sa la sc lc xs ts (ls.take 0) from ⟨_, _, _, _, _, C3⟩)
    have bS := hide bw3
    have hwB : w.heap.size ≤ w2.heap.size + 1 := Nat.le_succ_of_le bw2.size
    go_wp2_with fail
    go_loopw [7] (fun i wr => ∃ k : Nat, k ≤ ls.length ∧ i = .int .i64 k ∧ Hid (addAll ts [] ls = addAll ts (ls.take k) (ls.drop k) ∧ (ls.take k).length ≤ 20) ∧ Hid (∃ (sa la : Option Addr) (sc lc : Nat) (xs : List Sw), RCh wr.heap.size wr (w2.heap.size + 1) sa la sc lc xs ts (ls.take k)) ∧ Below w.heap.size w wr) (fun i _ => ls.length - (intOf i).toNat)
    case atStart => exact ⟨0, Nat.zero_le _, rfl, hide ⟨rfl, Nat.zero_le _⟩, C3, unhide bS⟩
    case round =>
      obtain ⟨k, hk, rfl, hadd, hC, hbw⟩ := hrel
      obtain ⟨sa, la, sc, lc, xs, C4⟩ := unhide hC
      clear C3 hC
      by_cases hlt : k < ls.length
      · obtain ⟨b, off, eal, hb, hcs⟩ : ∃ b off, al = some ⟨b, off, none⟩ ∧ b < w.heap.size ∧ ∀ (i : Nat) u, (chn ls k).cs[i]? = some u → wr.cell? ⟨b, off + k * 7 + i, none⟩ = some u := by
          rcases hL.below hbw with h | ⟨b, off, e, hb, hc⟩
          · rw [h] at hlt; simp at hlt
          · exact ⟨b, off, e, hb, hc k hlt⟩
        have hlt' : (k : Int) < ls.length := by omega
        obtain ⟨c, hc⟩ : ∃ c, c = chn ls k := ⟨_, rfl⟩
        rw [← hc] at hcs
        have hd0 := hcs 0 _ rfl
        have hd1 := hcs 1 _ rfl
        have hd2 := hcs 2 _ rfl
        have hd3 := hcs 3 _ rfl
        have hd4 := hcs 4 _ rfl
        have hd5 := hcs 5 _ rfl
        have hd6 := hcs 6 _ rfl
        rw [Nat.add_zero] at hd0
        clear hcs
        subst eal
        have hck : c = ls[k] := by rw [hc]; simp [chn, hlt]
        have htk := hide (show ls.take (k + 1) = ls.take k ++ [c] by rw [List.take_succ_eq_append_getElem hlt, hck])
        have hdk := hide (show ls.drop k = c :: ls.drop (k + 1) by rw [List.drop_eq_getElem_cons hlt, hck])
        clear hck hc
        have cA := hide (rchAdd_c (w2.heap.size + 1) sc lc sa la xs ts (ls.take k) c hS (unhide hadd).2 wr C4)
        obtain ⟨r, hr⟩ : ∃ r, r = addR ts (ls.take k) c := ⟨_, rfl⟩
        rw [← hr] at cA
        replace hr := hide hr
        clear C4
        go_wp2_with fail
        refine (unhide cA).mono ?_
        rintro e w5 ⟨rfl, hleft, -, hbel⟩
        clear cA hd0 hd1 hd2 hd3 hd4 hd5 hd6
        have bw5 := hbw.trans (hbel w.heap.size hwB)
        clear hbel
        by_cases hr0 : r = 0
        · subst hr0
          unfold RLeft at hleft
          rw [if_pos rfl] at hleft
          have C5 := hide hleft
          rw [← unhide htk] at C5
          have hadd' := hide (show addAll ts [] ls = addAll ts (ls.take (k + 1)) (ls.drop (k + 1)) ∧ (ls.take (k + 1)).length ≤ 20 by
            rw [(unhide hadd).1, unhide hdk, addAll_ok (unhide hr).symm, ← unhide htk]
            refine ⟨rfl, ?_⟩
            rw [unhide htk, List.length_append]
            have := addR_len (unhide hr).symm
            simp only [List.length_singleton]
            omega)
          clear hleft hadd
          go_wp2_with fail
          exact ⟨⟨k + 1, by omega, by go_num, hadd', C5, bw5⟩, by simp [intOf]; omega⟩
        · have hadd' := hide (show addAll ts [] ls = r by rw [(unhide hadd).1, unhide hdk, addAll_no (by rw [← unhide hr]; exact hr0), unhide hr])
          go_wp2_with fail
          refine bodyPost_ret (v := .tuple #[.pointer none, .int .i64 r]) (by simp [results, Tryz.results9, go_sem]) rfl ?_
          exact ⟨bw5, hide (.inr ⟨hS, .inr ⟨by rw [unhide hadd']; exact hr0, by rw [unhide hadd']⟩⟩)⟩
      · obtain rfl : k = ls.length := by omega
        have hfin := hide (show addAll ts [] ls = 0 by rw [(unhide hadd).1, List.drop_length]; rfl)
        rw [List.take_length] at C4
        have h20 := (unhide hadd).2
        rw [List.take_length] at h20
        replace C4 := hide C4
        go_wp2_with fail
        refine bodyPost_ret (v := .tuple #[.pointer (some ⟨w2.heap.size + 1, 0, none⟩), .int .i64 0]) (by simp [results, Tryz.results9, go_sem]) rfl ?_
        exact ⟨hbw, hide (.inr ⟨hS, .inl ⟨unhide hfin, w2.heap.size + 1, sa, la, sc, lc, xs, rfl, hwB, h20, unhide C4⟩⟩)⟩

end Go.Proofs.YtcjpaldijngnpaaGreatDoor

namespace Go.Proofs.YtcjpaldijngnpaaGreatDoor
open Go.RowKit Go.Shelf

/-- What New and NewChain answer together: no chain, and one number; or two chains. -/
theorem news_got {n m : Nat} {ts : List Ty} {ls : List Ch} {e e' : Ending} {W W' : World} (h : Hid ((¬ Sch ts ∧ NewLeft 10 n ts ls e W) ∨ (Sch ts ∧ NewLeft (addAll ts [] ls) n ts ls e W))) (h' : Hid ((¬ Sch ts ∧ RNewLeft 10 m ts ls e' W') ∨ (Sch ts ∧ RNewLeft (addAll ts [] ls) m ts ls e' W'))) :
    (∃ r : Int, r ≠ 0 ∧ e = .returned (.tuple #[.pointer none, errV r]) ∧ e' = .returned (.tuple #[.pointer none, .int .i64 r])) ∨
    (Sch ts ∧ ls.length ≤ 20 ∧ (∃ (Bp : Nat) (a' ac : Option Addr) (cap capc : Nat), e = .returned (.tuple #[.pointer (some ⟨Bp, 0, none⟩), .nilIface]) ∧ n ≤ Bp ∧ IsCh W.heap.size W Bp a' ac cap capc ts ls) ∧
      ∃ (Br : Nat) (sa la : Option Addr) (sc lc : Nat) (xs : List Sw), e' = .returned (.tuple #[.pointer (some ⟨Br, 0, none⟩), .int .i64 0]) ∧ m ≤ Br ∧ RCh W'.heap.size W' Br sa la sc lc xs ts ls) := by
  rcases unhide h with ⟨hS, h1⟩ | ⟨hS, h1⟩
  · rcases unhide h' with ⟨-, h2⟩ | ⟨hS', -⟩
    · rcases h1 with ⟨h0, -⟩ | ⟨-, h1⟩
      · exact absurd h0 (by decide)
      rcases h2 with ⟨h0, -⟩ | ⟨-, h2⟩
      · exact absurd h0 (by decide)
      exact .inl ⟨10, by decide, h1, h2⟩
    · exact absurd hS' hS
  · rcases unhide h' with ⟨hS', -⟩ | ⟨-, h2⟩
    · exact absurd hS hS'
    · rcases h1 with ⟨h0, Bp, a', ac, cap, capc, e1, hB, h20, C⟩ | ⟨h0, e1⟩
      · rcases h2 with ⟨-, Br, sa, la, sc, lc, xs, e2, hR, -, R⟩ | ⟨h0', -⟩
        · exact .inr ⟨hS, h20, ⟨Bp, a', ac, cap, capc, e1, hB, C⟩, Br, sa, la, sc, lc, xs, e2, hR, R⟩
        · exact absurd h0 h0'
      · rcases h2 with ⟨h0', -⟩ | ⟨-, e2⟩
        · exact absurd h0' h0
        · exact .inl ⟨_, h0, e1, e2⟩
theorem rat_good {ts : List Ty} {cs : List Ch} {m : Nat} (hm : m ≤ cs.length) {e : Ending} {W : World}
    (h : (∃ (k : Nat) (a : Option Addr) (c : Nat), (m : Int) = k ∧ k ≤ cs.length ∧ e = .returned (.tuple #[.agg #[.slice a (vers ts cs k).length c], .bool true]) ∧ Typs W.heap.size W a (vers ts cs k)) ∨ (((m : Int) < 0 ∨ (cs.length : Int) < m) ∧ e = .returned (.tuple #[.agg #[.slice none 0 0], .bool false]))) :
    ∃ a c, e = .returned (.tuple #[.agg #[.slice a (vers ts cs m).length c], .bool true]) ∧ Typs W.heap.size W a (vers ts cs m) := by
  rcases h with ⟨k, a, c, hk, -, e, hT⟩ | ⟨h, -⟩
  · obtain rfl : k = m := by omega
    exact ⟨a, c, e, hT⟩
  · omega

set_option maxRecDepth 100000 in
set_option maxHeartbeats 8000000 in
theorem news_c (a al : Option Addr) (cap capl : Nat) (ts : List Ty) (ls : List Ch) (hm : ts.length ≤ maxLen) (w : World) (hg : w.cell? ⟨0, 0, none⟩ = some (.iface 144 (.agg #[.pointer (some ⟨1, 33, none⟩)]))) (hT : Typs w.heap.size w a ts) (hL : Chs w.heap.size w al ls) :
    Calls Tryz.prog 4 #[.agg #[.slice a ts.length cap], .slice al ls.length capl] w fun e w' => e = .returned (.bool true) ∧ Below w.heap.size w w' := by
  have hw0 : 0 < w.heap.size := by
    rcases Nat.eq_zero_or_pos w.heap.size with h0 | h
    · simp [World.cell?, h0] at hg
    · exact h
  have hgB : ∀ W, Below w.heap.size w W → W.cell? ⟨0, 0, none⟩ = some (.iface 144 (.agg #[.pointer (some ⟨1, 33, none⟩)])) := fun W hb => (hb.cell (p := ⟨0, 0, none⟩) hw0).trans hg
  replace hgB := hide hgB
  obtain ⟨W0, hW0⟩ : ∃ W0, W0 = w.alloc (.cells #[.slice a ts.length cap] 24) := ⟨_, rfl⟩
  have b0 : Below w.heap.size w W0 := by rw [hW0]; exact (Below.refl _ _).alloc (Nat.le_refl _) _
  have x2 : Box W0 w.heap.size 24 #[.slice a ts.length cap] := by rw [hW0]; exact Box.new _ _ _
  have cK := hide (known_c W0)
  clear hg
  go_enter Tryz.func4, Tryz.ntmps4
  go_upto_region 1 with fail
  rw [← hW0]
  clear hW0
  go_wp2_with fail
  refine (unhide cK).mono ?_
  rintro e w1 ⟨rfl, hb1⟩
  clear cK
  have bw1 := b0.trans (hb1.mono b0.size)
  have y2 := x2.on hb1 x2.lt
  clear x2 b0 hb1
  by_cases hl30 : ls.length ≤ 30
  case neg =>
    have hl30' : (30 : Int) < ls.length := by omega
    go_wp2_with fail
    go_ret
    exact ⟨rfl, bw1⟩
  have hl30' : (ls.length : Int) ≤ 30 := by omega
  have hs := y2.one.1
  have T1 := hT.on bw1
  have L1 := (hL.below bw1).mono bw1.size
  have cN := hide (new_c a al cap capl ts ls hm hl30 w1 T1 L1)
  go_wp2_with fail
  refine (unhide cN).mono ?_
  rintro e w2 ⟨hb2, hN⟩
  clear cN hs
  have bw2 := bw1.trans (hb2.mono bw1.size)
  have z2 := y2.on hb2 y2.lt
  have hs := z2.one.1
  have cR := hide (rnew_c a al cap capl ts ls hm hl30 w2 (hT.on bw2) ((hL.below bw2).mono bw2.size))
  clear T1 L1 y2
  have hsh : (∃ r : Int, e = .returned (.tuple #[.pointer none, errV r])) ∨ (∃ Bp : Nat, e = .returned (.tuple #[.pointer (some ⟨Bp, 0, none⟩), .nilIface])) := by
    rcases unhide hN with ⟨-, h1⟩ | ⟨-, h1⟩
    · rcases h1 with ⟨-, Bp, _, _, _, _, e1, _⟩ | ⟨-, e1⟩
      · exact .inr ⟨Bp, e1⟩
      · exact .inl ⟨_, e1⟩
    · rcases h1 with ⟨-, Bp, _, _, _, _, e1, _⟩ | ⟨-, e1⟩
      · exact .inr ⟨Bp, e1⟩
      · exact .inl ⟨_, e1⟩
  rcases hsh with ⟨r, rfl⟩ | ⟨Bp, rfl⟩
  · go_wp2_with fail
    refine (unhide cR).mono ?_
    rintro e w3 ⟨hb3, hR⟩
    clear cR hs
    have bw3 := bw2.trans (hb3.mono bw2.size)
    rcases news_got hN hR with ⟨r2, h0, e1, rfl⟩ | ⟨-, -, ⟨_, _, _, _, _, e1, _⟩, -⟩
    case inr => simp at e1
    have er : errV r = errV r2 := by simpa using e1
    rw [er]
    have hg3 := unhide hgB _ bw3
    clear hN hR e1 er
    go_wp2_with fail
    refine (code_c r2 _ hg3).mono ?_
    rintro e w4 ⟨rfl, hb4⟩
    have bw4 := bw3.trans (hb4.mono bw3.size)
    go_wp2_with fail
    go_ret
    exact ⟨rfl, bw4⟩
  · go_wp2_with fail
    refine (unhide cR).mono ?_
    rintro e w3 ⟨hb3, hR⟩
    clear cR hs
    have bw3 := bw2.trans (hb3.mono bw2.size)
    rcases news_got hN hR with ⟨r2, h0, e1, -⟩ | ⟨hS, h20, ⟨Bp', a', ac, cap', capc, e1, hBp, C2⟩, Br, sa, la, sc, lc, xs, rfl, hBr, R3⟩
    case inl => simp at e1
    obtain rfl : Bp = Bp' := by simpa using e1
    have C3 := (C2.on hb3).mono hb3.size
    clear hN hR e1 C2
    replace C3 := hide C3
    replace R3 := hide R3
    go_wp2_with fail
    refine (code_0 _).mono ?_
    rintro e w4 ⟨rfl, hb4⟩
    have bw4 := bw3.trans (hb4.mono bw3.size)
    have C4 := hide (((unhide C3).on hb4).mono hb4.size)
    have R4 := hide (((unhide R3).on hb4).mono hb4.size)
    clear C3 R3 hb4 bw3 hb3 bw2 hb2
    go_wp2_with fail
    go_loopw [9] (fun iv wr => ∃ v : Nat, v ≤ ls.length + 1 ∧ iv = .int .i64 v ∧ Below w4.heap.size w4 wr) (fun i _ => ls.length + 1 - (intOf i).toNat)
    case atStart => exact ⟨0, Nat.zero_le _, rfl, Below.refl _ _⟩
    case round =>
      obtain ⟨v, hv, rfl, hb⟩ := hrel
      have C5 := ((unhide C4).on hb).mono hb.size
      have R5 := ((unhide R4).on hb).mono hb.size
      have bwr := bw4.trans (hb.mono bw4.size)
      by_cases hlt : v ≤ ls.length
      · have hlt' : (v : Int) ≤ ls.length := by omega
        have cA := hide (at_c Bp cap' capc a' ac ts ls v hS h20 wr C5)
        clear C5
        go_wp2_with fail
        refine (unhide cA).mono ?_
        rintro e w5 ⟨hat, hb5⟩
        clear cA
        obtain ⟨a5, c5, rfl, T5⟩ := at_good rfl hlt hS hat
        obtain ⟨vm, hvm⟩ : ∃ vm, vm = vers ts ls v := ⟨_, rfl⟩
        have hSm := sch_vers hS ls v
        rw [← hvm] at T5 hSm ⊢
        replace hvm := hide hvm
        obtain ⟨w6, hw6⟩ : ∃ w6, w6 = w5.alloc (.cells #[.slice a5 vm.length c5] 24) := ⟨_, rfl⟩
        have b6 : Below w5.heap.size w5 w6 := by rw [hw6]; exact (Below.refl _ _).alloc (Nat.le_refl _) _
        have xa : Box w6 w5.heap.size 24 #[.slice a5 vm.length c5] := by rw [hw6]; exact Box.new _ _ _
        have b46 := (hb.trans (hb5.mono hb.size)).trans (b6.mono (hb.trans (hb5.mono hb.size)).size)
        have R6 := ((R5.on hb5).mono hb5.size).on b6
        have cR := hide (refAt_c Br sc lc sa la xs ts ls v h20 w6 (R6.mono b6.size))
        have T6 := T5.on b6
        clear hat T5 R5 R6 b6 hb5
        replace hw6 := hide hw6
        go_upto_region 15 with fail
        rw [← unhide hw6]
        clear hw6
        go_wp2_with fail
        refine (unhide cR).mono ?_
        rintro e w7 ⟨hb7, hrr⟩
        clear cR
        obtain ⟨a7, c7, rfl, T7⟩ := rat_good hlt hrr
        rw [← unhide hvm] at T7 ⊢
        obtain ⟨w8, hw8⟩ : ∃ w8, w8 = w7.alloc (.cells #[.slice a7 vm.length c7] 24) := ⟨_, rfl⟩
        have b8 : Below w7.heap.size w7 w8 := by rw [hw8]; exact (Below.refl _ _).alloc (Nat.le_refl _) _
        have xb : Box w8 w7.heap.size 24 #[.slice a7 vm.length c7] := by rw [hw8]; exact Box.new _ _ _
        have b47 := b46.trans (hb7.mono b46.size)
        have b48 := b47.trans (b8.mono b47.size)
        have xa7 := xa.on hb7 xa.lt
        have q0 := (xa7.on b8 xa7.lt).one.1
        have q1 := xb.one.1
        have cS := hide (refSameS_c a5 a7 c5 c7 vm vm hSm.1 (sch_hk5 hSm) (sch_hk5 hSm) w8 ((T6.on hb7).on b8) (T7.on b8))
        clear hrr T6 T7 b8 b46 b47 hb7 xa xa7 xb
        replace hw8 := hide hw8
        go_upto_region 16 with fail
        rw [← unhide hw8]
        clear hw8
        go_wp2_with fail
        refine (unhide cS).mono ?_
        rintro e w9 ⟨B, rfl, hb9, hB⟩
        obtain rfl : B = true := (unhide hB).2 (by trivial)
        clear cS hB q0 q1
        have b49 := b48.trans (hb9.mono b48.size)
        go_wp2_with fail
        exact ⟨⟨v + 1, by omega, by go_num, b49⟩, by simp [intOf]; omega⟩
      · have hlt' : (ls.length : Int) < v := by omega
        have cW := hide (now_c Bp cap' capc a' ac ts ls wr C5)
        clear C5 R5
        go_wp2_with fail
        refine (unhide cW).mono ?_
        rintro e w5 ⟨rfl, rfl⟩
        go_wp2_with fail
        go_ret
        exact ⟨rfl, bwr⟩

end Go.Proofs.YtcjpaldijngnpaaGreatDoor
