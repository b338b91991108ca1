/-
  What escaped gives: the text byte by byte, with a backslash ahead of each quote and backslash.
-/
import Derived.Test.YtfofpenajkaalaaDoorWhole
namespace Go.Proofs.YtfofpenajkaalaaDoor
open Go.RowKit Go.Shelf

attribute [local go_sem] Oper.semAt_some

theorem eq_of_list {a b : ByteArray} (h : a.data.toList = b.data.toList) : a = b := by
  cases a; cases b; simp at h; simp [h]
theorem ext_list (s : ByteArray) (a b : Nat) : (s.extract a b).data.toList = (s.data.toList.take b).drop a := by
  rw [ByteArray.data_extract, Array.toList_extract, List.drop_take]
theorem ext_one (s : ByteArray) (k : Nat) (h : k < s.size) : s.extract k (k + 1) = ⟨#[s[k]]⟩ := by
  apply eq_of_list
  have hl : (s.data.toList.take k).length = k := by
    rw [List.length_take, Array.length_toList]; exact Nat.min_eq_left (Nat.le_of_lt h)
  rw [ext_list, take_snoc s k h, List.drop_append_of_le_length (by omega), List.drop_eq_nil_of_le (by omega)]
  rfl

/-- The pieces of a byte between quotes. -/
def escC (c : UInt8) : List ByteArray := if c.toNat = 34 ∨ c.toNat = 92 then [⟨#[92]⟩, ⟨#[c]⟩] else [⟨#[c]⟩]
def escP (l : List UInt8) : List ByteArray := l.flatMap escC
theorem escP_snoc (l : List UInt8) (c : UInt8) : escP (l ++ [c]) = escP l ++ escC c := by simp [escP]

set_option maxRecDepth 100000 in
set_option maxHeartbeats 4000000 in
theorem esc1_gives (B : Nat) (s : ByteArray) (hs : s.size ≤ 281474976710656) (n₀ : Nat) (X : Nat → World → Prop) (Gd : World → Prop) (hcl : ClsG n₀ X Gd) (W : World) (hG : Gd W) (hB : Box W B 9 #[.string s]) (hBn : B < n₀) :
    Gives (escP s.data.toList) 59 #[.pointer (some ⟨B, 0, none⟩)] X Gd W := by
  intro l J Jx B0 hB0 hJ hJx hY h0
  have hsl := hide (show s.data.toList.length = s.size from Array.length_toList ..)
  refine callsIn_wide.1 (show CallsIn Fence.wide 5 _ _ _ _ _ from ?_)
  refine callsIn_of_wp Tryd.func59 rfl trivial ?_ rfl
  simp only [Tryd.ntmps59, List.size_toArray, List.length_cons, List.length_nil, Nat.reduceAdd, Nat.reduceSub, Array.replicate_succ, Array.replicate_zero, List.push_toArray, List.append_toArray, List.nil_append, List.cons_append]
  have hb0 := hB.one.1
  gi_wp2_with fail
  gi_loopw [6] (fun i wr => ∃ k : Nat, k ≤ s.size ∧ i = .int .i64 k ∧ J (escP (s.data.toList.take k)) wr ∧ KeepX X Gd W wr) (fun i _ => s.size - (intOf i).toNat)
  case atStart => exact ⟨0, Nat.zero_le _, rfl, h0, KeepX.refl _ _ _⟩
  case round =>
    obtain ⟨k, hk, rfl, hJs, hkr⟩ := hrel
    have sr := hkr.sm hcl.cls hG
    have hbr := (hB.smk (SmB.of (m := 0) sr) (Nat.zero_le _) hBn).one.1
    have gr := (hkr hG).1
    by_cases hlt : k < s.size
    · have hkl : (k : Int) < s.size := by omega
      have htk := hide (show escP (s.data.toList.take (k + 1)) = escP (s.data.toList.take k) ++ escC s[k] by rw [take_snoc s k hlt, escP_snoc])
      have hall := hide (show escP s.data.toList = escP (s.data.toList.take k) ++ (escC s[k] ++ escP (s.data.toList.drop (k + 1))) by
        conv => lhs; rw [← List.take_append_drop (k + 1) s.data.toList, show ∀ a b, escP (a ++ b) = escP a ++ escP b from fun a b => by simp [escP], unhide htk, List.append_assoc])
      have hext := hide (ext_one s k hlt)
      have last : ∀ (pre : List ByteArray) (W1 : World), escP (s.data.toList.take k) ++ escC s[k] = pre ++ [⟨#[s[k]]⟩] → J pre W1 → YieldAt Fence.wide 4 Tryd.prog l #[.string (s.extract k (k + 1))] W1 fun e W' =>
          KeepsFrom B0 W1 W' ∧ ((e = .returned (.bool true) ∧ J (escP (s.data.toList.take (k + 1))) W' ∧ KeepX X Gd W1 W') ∨ (e = .returned (.bool false) ∧ ∃ q, SpS (escP s.data.toList) q ∧ Jx q W')) := fun pre W1 hp hj => by
        rw [unhide hext]
        refine (hY 4 pre ⟨#[s[k]]⟩ W1 hj ⟨escP (s.data.toList.drop (k + 1)), ?_⟩).mono fun e W' h => ⟨h.1, ?_⟩
        · rw [unhide hall, ← List.append_assoc, hp]; simp
        · rcases h.2 with ⟨h1, h2, h3⟩ | ⟨h1, h2⟩
          · exact .inl ⟨h1, by rw [unhide htk, hp]; exact h2, h3⟩
          · exact .inr ⟨h1, _, ⟨escP (s.data.toList.drop (k + 1)), by rw [unhide hall, ← List.append_assoc, hp]⟩, h2⟩
      by_cases hq : s[k].toNat = 34 ∨ s[k].toNat = 92
      · have hec : escC s[k] = [⟨#[92]⟩, ⟨#[s[k]]⟩] := by unfold escC; rw [if_pos hq]
        have hy1 := (hY 4 (escP (s.data.toList.take k)) ⟨#[92]⟩ wr hJs ⟨⟨#[s[k]]⟩ :: escP (s.data.toList.drop (k + 1)), by rw [unhide hall, hec]; simp⟩).mono (R' := fun e W' =>
          (e = .returned (.bool true) ∧ W'.cell? ⟨B, 0, none⟩ = some (.string s) ∧ KeepX X Gd wr W' ∧ YieldAt Fence.wide 4 Tryd.prog l #[.string (s.extract k (k + 1))] W' fun e W'' =>
            KeepsFrom B0 W' W'' ∧ ((e = .returned (.bool true) ∧ J (escP (s.data.toList.take (k + 1))) W'' ∧ KeepX X Gd W' W'') ∨ (e = .returned (.bool false) ∧ ∃ q, SpS (escP s.data.toList) q ∧ Jx q W''))) ∨
          (e = .returned (.bool false) ∧ ∃ q, SpS (escP s.data.toList) q ∧ Jx q W')) (fun e W' h => by
            rcases h.2 with ⟨h1, h2, h3⟩ | ⟨h1, h2⟩
            · exact .inl ⟨h1, (hB.smk (SmB.of (m := 0) (sr.trans (h3.sm hcl.cls gr))) (Nat.zero_le _) hBn).one.1, h3, last _ W' (by rw [hec]; simp) h2⟩
            · exact .inr ⟨h1, _, ⟨⟨#[s[k]]⟩ :: escP (s.data.toList.drop (k + 1)), by rw [unhide hall, hec]; simp⟩, h2⟩)
        clear last hec
        obtain ⟨fn, tmps, assign, body, hy, hR⟩ := hy1
        have e34 : ((s[k].toNat : Int) == 34) = true ∨ ((s[k].toNat : Int) == 34) = false ∧ ((s[k].toNat : Int) == 92) = true := by
          rcases hq with h | h
          · exact .inl (by simp [h])
          · exact .inr ⟨by simp [h], by simp [h]⟩
        clear hq
        rcases e34 with e34 | ⟨e34, e92⟩
        all_goals
          gi_wp2_with fail
          refine hR.mono ?_
          rintro e W3 (⟨rfl, hb3, hk3, fn2, tmps2, assign2, body2, hy2, hR2⟩ | ⟨rfl, hq3⟩)
          · gi_wp2_with fail
            refine hR2.mono ?_
            rintro e W4 ⟨-, ⟨rfl, hJ4, hk4⟩ | ⟨rfl, hq4⟩⟩
            · gi_wp2_with fail
              go_roundw
              case rel => exact ⟨k + 1, by omega, by go_num, hJ4, hkr.trans (hk3.trans hk4)⟩
              case measure => simp [intOf]; omega
            · replace hq4 := hide hq4
              gi_wp2_with fail
              refine bodyPost_ret (results_none rfl _ _ _) rfl ?_
              exact ⟨⟨_, rfl⟩, .inr (unhide hq4)⟩
          · replace hq3 := hide hq3
            gi_wp2_with fail
            refine bodyPost_ret (results_none rfl _ _ _) rfl ?_
            exact ⟨⟨_, rfl⟩, .inr (unhide hq3)⟩
      · have hec : escC s[k] = [⟨#[s[k]]⟩] := by unfold escC; rw [if_neg hq]
        obtain ⟨fn, tmps, assign, body, hy, hR⟩ := last _ wr (by rw [hec]) hJs
        have e34 : ((s[k].toNat : Int) == 34) = false := by simp; omega
        have e92 : ((s[k].toNat : Int) == 92) = false := by simp; omega
        clear last hec hq
        gi_wp2_with fail
        refine ⟨fun _ h => (by cases h), ?_⟩
        gi_wp2_with fail
        refine hR.mono ?_
        rintro e W4 ⟨-, ⟨rfl, hJ4, hk4⟩ | ⟨rfl, hq4⟩⟩
        · gi_wp2_with fail
          go_roundw
          case rel => exact ⟨k + 1, by omega, by go_num, hJ4, hkr.trans hk4⟩
          case measure => simp [intOf]; omega
        · replace hq4 := hide hq4
          gi_wp2_with fail
          refine bodyPost_ret (results_none rfl _ _ _) rfl ?_
          exact ⟨⟨_, rfl⟩, .inr (unhide hq4)⟩
    · have hke : s.data.toList.take k = s.data.toList := List.take_of_length_le (by rw [unhide hsl]; omega)
      replace hke := hide hke
      gi_wp2_with fail
      go_end0
      exact ⟨⟨_, rfl⟩, .inl ⟨_, by rw [unhide hke], hJs⟩⟩

theorem pcs_esc (m B : Nat) (hm : m ≤ B) (s : ByteArray) (hs : s.size ≤ 281474976710656) (W : World) (hB : Box W B 9 #[.string s]) : Pcs m W (.func (.func 59) #[] #[.pointer (some ⟨B, 0, none⟩)]) (escP s.data.toList) :=
  ⟨59, _, rfl, enters_of Tryd.func59 (by kernel_rfl) rfl, Nat.le_refl _, fun n₀ X Gd hcl hn W' hz _ hG => esc1_gives B s hs n₀ X Gd hcl W' hG (hB.smk hz hm hB.lt) (Nat.lt_of_lt_of_le hB.lt hn)⟩

set_option maxHeartbeats 1000000 in
theorem escaped_c (m : Nat) (s : ByteArray) (hs : s.size ≤ 281474976710656) (w : World) (hm : m ≤ w.heap.size) : Calls Tryd.prog 39 #[.string s] w fun e w' => ∃ u, e = .returned u ∧ Pcs m w' u (escP s.data.toList) ∧ Below w.heap.size w w' := by
  obtain ⟨W0, hW0⟩ : ∃ W0, W0 = w.alloc (.cells #[.string s] 9) := ⟨_, rfl⟩
  have b0 : Below w.heap.size w W0 := by rw [hW0]; exact (Below.refl _ _).alloc (Nat.le_refl _) _
  have x0 : Box W0 w.heap.size 9 #[.string s] := by rw [hW0]; exact Box.new _ _ _
  have hp := hide (pcs_esc m _ hm s hs W0 x0)
  go_enter Tryd.func39, Tryd.ntmps39
  go_upto_region 1 with fail
  rw [← hW0]
  clear hW0
  go_wp2_with fail
  go_ret
  exact ⟨_, rfl, unhide hp, b0⟩

end Go.Proofs.YtfofpenajkaalaaDoor
