/-
  What textLength of package word tells: for every text, in whatever world in which the package variables stand; nothing that lay is turned.
-/
import Derived.Test.YtgfaaeloppdkkaaDoorWName
import Derived.Test.YtgfaaeloppdkkaaDoorReadsZ
namespace Go.Proofs.YtgfaaeloppdkkaaDoor
open Go.RowKit Go.Shelf

/-- How long the text is that l begins with (behind its first byte): 0 where it does not end. -/
def tlen (l : List UInt8) : Nat := match endL (l.drop 1) with | none => 0 | some n => n + 1

/-- The end of a text, i bytes of it behind: what the whole comes to. -/
def tlenAt (l : List UInt8) (i : Nat) : Nat := match endL (l.drop i) with | none => 0 | some n => i + n
theorem tlenAt_one (l : List UInt8) : tlenAt l 1 = tlen l := by
  unfold tlenAt tlen
  cases endL (l.drop 1) <;> simp [Nat.add_comm]
theorem drop_cons (l : List UInt8) (i : Nat) (h : i < l.length) : l.drop i = l[i] :: l.drop (i + 1) := List.drop_eq_getElem_cons h
theorem tlenAt_end (l : List UInt8) (i : Nat) (h : l.length ≤ i) : tlenAt l i = 0 := by simp [tlenAt, List.drop_eq_nil_of_le h, endL]
theorem tlenAt_quote (l : List UInt8) (i : Nat) (h : i < l.length) (hc : l[i].toNat = 34) : tlenAt l i = i + 1 := by
  rw [tlenAt, drop_cons l i h, endL.eq_def]; simp [hc]
theorem tlenAt_slash_end (l : List UInt8) (i : Nat) (h : i < l.length) (hc : l[i].toNat = 92) (h2 : l.length ≤ i + 1) : tlenAt l i = 0 := by
  rw [tlenAt, drop_cons l i h, List.drop_eq_nil_of_le h2]; simp [endL, hc]
theorem tlenAt_slash (l : List UInt8) (i : Nat) (h : i < l.length) (hc : l[i].toNat = 92) (h2 : i + 1 < l.length) :
    tlenAt l i = if l[i + 1].toNat = 34 ∨ l[i + 1].toNat = 92 then tlenAt l (i + 2) else 0 := by
  rw [tlenAt, drop_cons l i h, drop_cons l (i + 1) h2]
  simp only [endL, hc]
  by_cases hd : l[i + 1].toNat = 34 ∨ l[i + 1].toNat = 92
  · simp only [hd, if_true, tlenAt]
    cases endL (l.drop (i + 1 + 1)) <;> simp [Nat.add_comm, Nat.add_left_comm]
  · simp [hd]
theorem tlenAt_plain (l : List UInt8) (i : Nat) (h : i < l.length) (h1 : ¬ l[i].toNat = 34) (h2 : ¬ l[i].toNat = 92) :
    tlenAt l i = if inB 32 126 l[i].toNat = true then tlenAt l (i + 1) else 0 := by
  rw [tlenAt, drop_cons l i h, endL.eq_def]
  simp only [h1, h2, if_false]
  by_cases hd : inB 32 126 l[i].toNat = true
  · simp only [hd, if_true, tlenAt]
    cases endL (l.drop (i + 1)) <;> simp [Nat.add_comm, Nat.add_left_comm]
  · simp [hd]
theorem at_data (s : ByteArray) (i : Nat) (h : i < s.size) : s.data.toList[i]'(by rw [Array.length_toList]; exact h) = s[i] := by
  rw [ByteArray.getElem_eq_getElem_data, ← Array.getElem_toList]

set_option maxRecDepth 100000 in
set_option maxHeartbeats 2000000 in
theorem textLen45_c (s : ByteArray) (w : World) (hV : Vars w) (hs : s.size ≤ 281474976710656) :
    Calls Tryd.prog 45 #[.string s] w fun e w' => e = .returned (.int .i64 (tlen s.data.toList)) ∧ Below w.heap.size w w' := by
  have hz := hV.size
  have hz1 : 5 < w.heap.size := by omega
  have hs0 := hV.p0
  have hs1 := hV.p1
  have hsl := hide (show s.data.toList.length = s.size from Array.length_toList ..)
  have hmx : Tryd.prog.follows .mixedOrders = true := by kernel_rfl
  go_enter Tryd.func45, Tryd.ntmps45
  go_wp2
  go_loopw [3] (fun i wr => ∃ k : Nat, 1 ≤ k ∧ k ≤ s.size + 1 ∧ i = .int .i64 k ∧ Hid (tlenAt s.data.toList k = tlen s.data.toList) ∧ Below w.heap.size w wr) (fun i _ => s.size + 2 - (intOf i).toNat)
  case atStart => exact ⟨1, Nat.le_refl _, by omega, rfl, hide (tlenAt_one _), Below.refl _ _⟩
  case round =>
    obtain ⟨k, hk1, hk, rfl, hn, hb⟩ := hrel
    by_cases hlt : k < s.size
    · have hl : k < s.data.toList.length := by rw [unhide hsl]; exact hlt
      have hat := hide (at_data s k hlt)
      by_cases h34 : s[k].toNat = 34
      · have H := hide (show tlen s.data.toList = k + 1 by rw [← unhide hn]; exact tlenAt_quote _ _ hl (by rw [unhide hat]; exact h34))
        have h34' : ((s[k].toNat : Int) == 34) = true := by simp [h34]
        clear h34
        go_wp2
        go_ret
        exact ⟨by rw [unhide H]; rfl, hb⟩
      · have h34' : ((s[k].toNat : Int) == 34) = false := by simp; omega
        by_cases h92 : s[k].toNat = 92
        · have h92' : ((s[k].toNat : Int) == 92) = true := by simp [h92]
          by_cases h2 : k + 1 < s.size
          · have hl2 : k + 1 < s.data.toList.length := by rw [unhide hsl]; exact h2
            have hat2 := hide (at_data s (k + 1) h2)
            have hS := tlenAt_slash _ _ hl (by rw [unhide hat]; exact h92) hl2
            rw [unhide hat2, unhide hn] at hS
            have HS := hide hS
            clear hS
            have hne : ((k : Int) + 1 == s.size) = false := by simp; omega
            by_cases d34 : s[k + 1].toNat = 34
            · have d34' : ((s[k + 1].toNat : Int) != 34) = false := by simp [d34]
              have H := hide (show tlenAt s.data.toList (k + 2) = tlen s.data.toList by have := unhide HS; rw [if_pos (.inl d34)] at this; exact this.symm)
              clear d34 h34 h92
              go_wp2
              go_roundw
              case rel => exact ⟨k + 2, by omega, by omega, by go_num, H, hb⟩
              case measure => simp [intOf]; omega
            · have d34' : ((s[k + 1].toNat : Int) != 34) = true := by simp; omega
              by_cases d92 : s[k + 1].toNat = 92
              · have d92' : ((s[k + 1].toNat : Int) != 92) = false := by simp [d92]
                have H := hide (show tlenAt s.data.toList (k + 2) = tlen s.data.toList by have := unhide HS; rw [if_pos (.inr d92)] at this; exact this.symm)
                clear d34 d92 h34 h92
                go_wp2
                go_roundw
                case rel => exact ⟨k + 2, by omega, by omega, by go_num, H, hb⟩
                case measure => simp [intOf]; omega
              · have d92' : ((s[k + 1].toNat : Int) != 92) = true := by simp; omega
                have H := hide (show tlen s.data.toList = 0 by have := unhide HS; rw [if_neg (by omega)] at this; exact this)
                clear d34 d92 h34 h92
                go_wp2
                go_ret
                exact ⟨by rw [unhide H]; rfl, hb⟩
          · have H := hide (show tlen s.data.toList = 0 by rw [← unhide hn]; exact tlenAt_slash_end _ _ hl (by rw [unhide hat]; exact h92) (by rw [unhide hsl]; omega))
            have hne : ((k : Int) + 1 == s.size) = true := by simp; omega
            clear h34 h92
            go_wp2
            go_ret
            exact ⟨by rw [unhide H]; rfl, hb⟩
        · have h92' : ((s[k].toNat : Int) == 92) = false := by simp; omega
          have hS := tlenAt_plain _ _ hl (by rw [unhide hat]; exact h34) (by rw [unhide hat]; exact h92)
          rw [unhide hat, unhide hn] at hS
          have HS := hide hS
          clear hS h34 h92
          have hc0 : wr.cell? ⟨5, 0, none⟩ = some (.int .u8 32) := (hb.cell (p := ⟨5, 0, none⟩) hz1).trans hs0
          have hc1 : wr.cell? ⟨5, 1, none⟩ = some (.int .u8 126) := (hb.cell (p := ⟨5, 1, none⟩) hz1).trans hs1
          have gc0 := cell_regrown hc0
          have gc1 := cell_regrown hc1
          cases hin : inB 32 126 s[k].toNat
          · have H := hide (show tlen s.data.toList = 0 by have := unhide HS; rw [if_neg (by rw [hin]; decide)] at this; exact this)
            have HC := hide (show ∀ W, Calls Tryd.prog 31 #[.agg #[.int .u8 32, .int .u8 126], .int .u8 s[k].toNat] W fun e w' => e = .returned (.bool false) ∧ Below W.heap.size W w' from fun W => by have := has31_c 32 126 s[k].toNat W; rwa [hin] at this)
            clear hin
            go_wp2
            refine wp_region_quiet_below (by assumption) (by kernel_rfl) ?_
            repeat (quiet_step (first | (go_at_call 31; exact Calls.regrown_of (unhide HC _))))
            refine wpQuiet_nil ?_
            intro _ hw'
            obtain ⟨⟨dq, osq⟩, hw''⟩ := hw'
            subst hw''
            have hb1 := below_regrown wr dq osq
            generalize Sort.grow (redrawn wr dq) osq = W1 at hb1 ⊢
            go_wp2
            go_ret
            exact ⟨by rw [unhide H]; rfl, hb.trans (hb1.mono hb.size)⟩
          · have H := hide (show tlenAt s.data.toList (k + 1) = tlen s.data.toList by have := unhide HS; rw [if_pos hin] at this; exact this.symm)
            have HC := hide (show ∀ W, Calls Tryd.prog 31 #[.agg #[.int .u8 32, .int .u8 126], .int .u8 s[k].toNat] W fun e w' => e = .returned (.bool true) ∧ Below W.heap.size W w' from fun W => by have := has31_c 32 126 s[k].toNat W; rwa [hin] at this)
            clear hin
            go_wp2
            refine wp_region_quiet_below (by assumption) (by kernel_rfl) ?_
            repeat (quiet_step (first | (go_at_call 31; exact Calls.regrown_of (unhide HC _))))
            refine wpQuiet_nil ?_
            intro _ hw'
            obtain ⟨⟨dq, osq⟩, hw''⟩ := hw'
            subst hw''
            have hb1 := below_regrown wr dq osq
            generalize Sort.grow (redrawn wr dq) osq = W1 at hb1 ⊢
            go_wp2
            go_roundw
            case rel => exact ⟨k + 1, by omega, by omega, by go_num, H, hb.trans (hb1.mono hb.size)⟩
            case measure => simp [intOf]; omega
    · have H := hide (show tlen s.data.toList = 0 by rw [← unhide hn]; exact tlenAt_end _ _ (by rw [unhide hsl]; omega))
      go_wp2
      go_ret
      exact ⟨by rw [unhide H]; rfl, hb⟩

end Go.Proofs.YtgfaaeloppdkkaaDoor
