/-
  What the walk over a text's words gives: for every text, in whatever world in which the package variables stand.
-/
import Derived.Test.YtgfaaeloppdkkaaDoorWFirst
namespace Go.Proofs.YtgfaaeloppdkkaaDoor
open Go.RowKit Go.Shelf

attribute [local go_sem] Oper.semAt_some

/-- What lay below n₀, and the block Bx, lie as they lay. -/
def KeepX (n₀ Bx : Nat) (W W' : World) : Prop := Below n₀ W W' ∧ W'.heap[Bx]? = W.heap[Bx]?
theorem KeepX.refl (n₀ Bx : Nat) (W : World) : KeepX n₀ Bx W W := ⟨Below.refl _ _, rfl⟩
theorem KeepX.trans {n₀ Bx : Nat} {A B C : World} (h : KeepX n₀ Bx A B) (k : KeepX n₀ Bx B C) : KeepX n₀ Bx A C := ⟨h.1.trans k.1, k.2.trans h.2⟩
theorem KeepX.box {n₀ Bx : Nat} {A B : World} (h : KeepX n₀ Bx A B) : B.cell? ⟨Bx, 0, none⟩ = A.cell? ⟨Bx, 0, none⟩ := World.cell?_of_block (w := A) h.2
theorem KeepX.of_below {n₀ Bx : Nat} {A B : World} (h : Below A.heap.size A B) (hn : n₀ ≤ A.heap.size) (hB : Bx < A.heap.size) : KeepX n₀ Bx A B := ⟨h.mono hn, h.block _ hB⟩

/-- What the walk hands over: a word and no error, or no word and what is wrong. -/
def encY : Wd → Array Value
  | .word k t n at_ => #[.agg #[.int .i64 k, .string ⟨t.toArray⟩, .int .i64 n, .int .i64 at_], .nilIface]
  | .bad e => #[.agg #[.int .i64 0, .string ⟨#[]⟩, .int .i64 0, .int .i64 0], .iface 40 (.int .i64 e)]

theorem abides_below {α : Type} {B : Nat} {J : List α → World → Prop} (h : AbidesFrom B J) {pre : List α} {W W' : World} (hj : J pre W) (hb : Below W.heap.size W W') : J pre W' :=
  h pre W W' none hj ⟨hb.os, hb.tape, hb.output, hb.size, fun k hk _ => hb.block k hk⟩ (fun r e => by cases e)

set_option maxRecDepth 100000 in
set_option maxHeartbeats 2000000 in
theorem words22_in (n : Nat) (hn : 1 ≤ n) (l Bs n₀ B : Nat) (s : ByteArray) (hs : s.size ≤ 281474976710656) (h8 : 8 ≤ n₀) (J Jx : List Wd → World → Prop) (hJ : AbidesFrom B J)
    (hY : ∀ pre x W, J pre W → pre.length < s.size → YieldAt Fence.wide (n - 1) Tryd.prog l (encY x) W fun e W' =>
      (e = .returned (.bool true) ∧ J (pre ++ [x]) W' ∧ KeepX n₀ Bs W W') ∨ (e = .returned (.bool false) ∧ Jx (pre ++ [x]) W'))
    (W : World) (hn₀ : n₀ ≤ W.heap.size) (hBl : Bs < W.heap.size) (hV : Vars W) (hBs : W.cell? ⟨Bs, 0, none⟩ = some (.string s)) (h0 : J [] W) :
    CallsIn Fence.wide n Tryd.prog 22 #[.func (.yield l) #[] #[], .pointer (some ⟨Bs, 0, none⟩)] W fun e W' => (∃ v, e = .returned v) ∧
      ((∃ xs, xs = cutL s.data.toList ∧ J xs W') ∨ (∃ pre, (∃ r, cutL s.data.toList = pre ++ r) ∧ Jx pre W')) := by
  have hsl := hide (show s.data.toList.length = s.size from Array.length_toList ..)
  refine callsIn_of_wp Tryd.func22 rfl trivial ?_ rfl
  simp only [Tryd.ntmps22, List.size_toArray, List.length_cons, List.length_nil, Nat.reduceAdd, Nat.reduceSub, Array.replicate_succ, Array.replicate_zero, List.push_toArray, List.append_toArray, List.nil_append, List.cons_append]
  gi_wp2
  gi_loopw [3] (fun i wr => ∃ (k : Nat) (pre : List Wd), k ≤ s.size ∧ i = .int .i64 k ∧ Hid (cutL s.data.toList = pre ++ restL k (s.data.toList.drop k)) ∧ J pre wr ∧ KeepX n₀ Bs W wr ∧ W.heap.size ≤ wr.heap.size) (fun i _ => s.size - (intOf i).toNat)
  case atStart => exact ⟨0, [], Nat.zero_le _, rfl, hide rfl, h0, KeepX.refl _ _ _, Nat.le_refl _⟩
  case round =>
    obtain ⟨k, pre, hk, rfl, hcut, hJs, hnx, hsz⟩ := hrel
    have hbs : wr.cell? ⟨Bs, 0, none⟩ = some (.string s) := hnx.box.trans hBs
    have hVr : Vars wr := hV.on hnx.1 h8
    have hBr : Bs < wr.heap.size := by omega
    by_cases hlt : k < s.size
    · have hl : k < s.data.toList.length := by rw [unhide hsl]; exact hlt
      have hat := hide (at_data s k hlt)
      have hdr := hide (drop_cons _ _ hl)
      by_cases h32 : s[k].toNat = 32
      · have h32' : ((s[k].toNat : Int) == 32) = true := by simp [h32]
        have H := hide (show cutL s.data.toList = pre ++ restL (k + 1) (s.data.toList.drop (k + 1)) by
          rw [unhide hcut, unhide hdr, restL_blank _ _ (by rw [unhide hat]; exact h32)])
        clear h32
        gi_wp2
        go_roundw
        case rel => exact ⟨k + 1, pre, by omega, by go_num, H, hJs, hnx, hsz⟩
        case measure => simp [intOf]; omega
      · have h32' : ((s[k].toNat : Int) == 32) = false := by simp; omega
        obtain ⟨X, hX⟩ : ∃ X, X = s.extract k s.size := ⟨_, rfl⟩
        have HX := hide hX
        have hXl : X.data.toList = s.data.toList.drop k := by rw [hX, ext_list, ← unhide hsl, List.take_length]
        have hXz : X.size = s.size - k := by rw [show X.size = X.data.toList.length from (Array.length_toList ..).symm, hXl, List.length_drop, unhide hsl]
        have hcall := hide (show ∀ W, Vars W → Calls Tryd.prog 23 #[.string X] W fun e w' => e = .returned (encR (firstW (s.data.toList.drop k))) ∧ Below W.heap.size W w' from fun W hVW => by
          have := first23_c X W hVW (by omega) (by omega)
          rwa [hXl] at this)
        have hne : ¬ (s.data.toList[k]'hl).toNat = 32 := by rw [unhide hat]; exact h32
        clear hX hXl h32
        rcases hw : firstW (s.data.toList.drop k) with ⟨kk, tt, nn, len⟩ | e
        · have hlen := firstW_len hw
          have hr := restL_word k hne (by rw [← unhide hdr]; exact hw)
          rw [hw] at hcall
          clear hw
          have hc2 : cutL s.data.toList = (pre ++ [.word kk tt nn k]) ++ restL (k + len) (s.data.toList.drop (k + len)) := by
            rw [unhide hcut, unhide hdr, hr, ← unhide hdr, List.drop_drop]; simp
          have hpl : pre.length < s.size := by
            have := cutL_length s.data.toList
            rw [hc2, unhide hsl] at this
            simp at this; omega
          have hln : k + len ≤ s.size := by have := hlen.2; rw [List.length_drop, unhide hsl] at this; omega
          have hl1 := hlen.1
          have H := hide hc2
          clear hc2 hr hlen
          gi_wp2_with (refine ⟨trivial, ?_⟩; rw [← unhide HX]; gi_at_call 23; refine (callsIn_wide.2 (unhide hcall _ hVr)).mono ?_; rintro e w2 ⟨rfl, hb2⟩; simp only [encR]
                       have bq : Below wr.heap.size wr (w2.alloc (.cells #[.int .i64 kk, .string ⟨tt.toArray⟩, .int .i64 nn, .int .i64 k] 32)) := hb2.alloc hb2.size _
                       obtain ⟨fn, tmps, assign, body, hy, hR⟩ := hY pre (.word kk tt nn k) (w2.alloc (.cells #[.int .i64 kk, .string ⟨tt.toArray⟩, .int .i64 nn, .int .i64 k] 32)) (abides_below hJ hJs bq) hpl
                       dsimp only [encY] at hy)
          refine hR.mono ?_
          rintro e W3 (⟨rfl, hJ3, hk3⟩ | ⟨rfl, hJx3⟩)
          · gi_wp2
            go_roundw
            case rel => exact ⟨k + len, _, hln, by go_num, H, hJ3, (hnx.trans (KeepX.of_below bq (by omega) hBr)).trans hk3, by have := hk3.1.size; have := bq.size; omega⟩
            case measure => simp [intOf]; omega
          · gi_wp2
            refine bodyPost_ret (results_none rfl _ _ _) rfl ?_
            exact ⟨⟨_, rfl⟩, .inr ⟨_, ⟨_, unhide H⟩, hJx3⟩⟩
        · have hr := restL_bad k hne (by rw [← unhide hdr]; exact hw)
          rw [hw] at hcall
          clear hw
          have hc2 : cutL s.data.toList = pre ++ [.bad e] := by rw [unhide hcut, unhide hdr, hr]
          have hpl : pre.length < s.size := by
            have := cutL_length s.data.toList
            rw [hc2, unhide hsl] at this
            simp at this; omega
          have H := hide hc2
          clear hc2 hr
          gi_wp2_with (refine ⟨trivial, ?_⟩; rw [← unhide HX]; gi_at_call 23; refine (callsIn_wide.2 (unhide hcall _ hVr)).mono ?_; rintro e' w2 ⟨rfl, hb2⟩; simp only [encR]
                       have bq : Below wr.heap.size wr (w2.alloc (.cells #[.int .i64 0, .string ⟨#[]⟩, .int .i64 0, .int .i64 0] 32)) := hb2.alloc hb2.size _
                       obtain ⟨fn, tmps, assign, body, hy, hR⟩ := hY pre (.bad e) (w2.alloc (.cells #[.int .i64 0, .string ⟨#[]⟩, .int .i64 0, .int .i64 0] 32)) (abides_below hJ hJs bq) hpl
                       dsimp only [encY] at hy)
          refine hR.mono ?_
          rintro e' W3 (⟨rfl, hJ3, hk3⟩ | ⟨rfl, hJx3⟩)
          · gi_wp2
            refine bodyPost_ret (results_none rfl _ _ _) rfl ?_
            exact ⟨⟨_, rfl⟩, .inl ⟨_, (unhide H).symm, hJ3⟩⟩
          · gi_wp2
            refine bodyPost_ret (results_none rfl _ _ _) rfl ?_
            exact ⟨⟨_, rfl⟩, .inr ⟨_, ⟨[], by rw [List.append_nil]; exact unhide H⟩, hJx3⟩⟩
    · have H := hide (show cutL s.data.toList = pre by
        rw [unhide hcut, List.drop_eq_nil_of_le (by rw [unhide hsl]; omega), restL_nil, List.append_nil])
      gi_wp2
      go_end0
      exact ⟨⟨_, rfl⟩, .inl ⟨_, (unhide H).symm, hJs⟩⟩

set_option maxHeartbeats 1000000 in
theorem words16_in (n : Nat) (s : ByteArray) (w : World) :
    CallsIn Fence.wide n Tryd.prog 16 #[.string s] w fun e w' => e = .returned (.func (.func 22) #[] #[.pointer (some ⟨w.heap.size, 0, none⟩)]) ∧ w' = w.alloc (.cells #[.string s] 9) := by
  refine callsIn_of_wp Tryd.func16 rfl trivial ?_ rfl
  simp only [Tryd.ntmps16, List.size_toArray, List.length_cons, List.length_nil, Nat.reduceAdd, Nat.reduceSub, Array.replicate_succ, Array.replicate_zero, List.push_toArray, List.append_toArray, List.nil_append, List.cons_append]
  gi_wp2
  go_ret
  exact ⟨rfl, rfl⟩

theorem words_stops (n : Nat) (hn : 1 ≤ n) (Bs n₀ : Nat) (s : ByteArray) (hs : s.size ≤ 281474976710656) (w : World) (hV : Vars w) (h8 : 8 ≤ n₀) (hn₀ : n₀ ≤ w.heap.size) (hBs : Bs < w.heap.size) (hc : w.cell? ⟨Bs, 0, none⟩ = some (.string s)) :
    SeqStopsK Fence.wide n Tryd.prog 22 #[.pointer (some ⟨Bs, 0, none⟩)] encY (KeepX n₀ Bs) (fun xs => xs = cutL s.data.toList) (fun pre => ∃ r, cutL s.data.toList = pre ++ r) s.size w := fun l J Jx W hW hJ _ hY h0 =>
  words22_in n hn l Bs n₀ W.heap.size s hs h8 J Jx hJ hY W (Nat.le_trans hn₀ hW.size) (Nat.lt_of_lt_of_le hBs hW.size) (hV.on hW hV.size) ((hW.cell (p := ⟨Bs, 0, none⟩) hBs).trans hc) h0

end Go.Proofs.YtgfaaeloppdkkaaDoor
