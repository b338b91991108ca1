/-
  What the walk over a text's words gives: for every text, in whatever world in which the package variables stand.
  A row that a call makes beside boxes that lie below it: one element more, and what stays.
  What Cut answers: for every text, in whatever world in which the package variables stand: the words, in memory of its own, or what is wrong; nothing that lay is turned.
-/
import Derived.Test.YtmhpakhnclkenaaGreatDoorWFirst
import Derived.Maps.OwnIn
namespace Go.Proofs.YtmhpakhnclkenaaGreatDoor
open Go.RowKit Go.Shelf

attribute [local go_sem] Oper.semAt_some

/-- What lay below n₀, and the block Bx, lie as they lay. -/
def KeepB (n₀ Bx : Nat) (W W' : World) : Prop := Below n₀ W W' ∧ W'.heap[Bx]? = W.heap[Bx]?
theorem KeepB.refl (n₀ Bx : Nat) (W : World) : KeepB n₀ Bx W W := ⟨Below.refl _ _, rfl⟩
theorem KeepB.trans {n₀ Bx : Nat} {A B C : World} (h : KeepB n₀ Bx A B) (k : KeepB n₀ Bx B C) : KeepB n₀ Bx A C := ⟨h.1.trans k.1, k.2.trans h.2⟩
theorem KeepB.box {n₀ Bx : Nat} {A B : World} (h : KeepB n₀ Bx A B) : B.cell? ⟨Bx, 0, none⟩ = A.cell? ⟨Bx, 0, none⟩ := World.cell?_of_block (w := A) h.2
theorem KeepB.of_below {n₀ Bx : Nat} {A B : World} (h : Below A.heap.size A B) (hn : n₀ ≤ A.heap.size) (hB : Bx < A.heap.size) : KeepB n₀ Bx A B := ⟨h.mono hn, h.block _ hB⟩

/-- What the walk hands over: a word and no error, or no word and what is wrong. -/
def encY : Wd → Array Value
  | .word k t n at_ => #[.agg #[.int .i64 k, .string ⟨t.toArray⟩, .int .i64 n, .int .i64 at_], .nilIface]
  | .bad e => #[.agg #[.int .i64 0, .string ⟨#[]⟩, .int .i64 0, .int .i64 0], .iface 49 (.int .i64 e)]

theorem abides_below {α : Type} {B : Nat} {J : List α → World → Prop} (h : AbidesFrom B J) {pre : List α} {W W' : World} (hj : J pre W) (hb : Below W.heap.size W W') : J pre W' :=
  h pre W W' none hj ⟨hb.os, hb.tape, hb.output, hb.size, fun k hk _ => hb.block k hk⟩ (fun r e => by cases e)

set_option maxRecDepth 100000 in
set_option maxHeartbeats 2000000 in
theorem words22_in (n : Nat) (hn : 1 ≤ n) (l Bs n₀ B : Nat) (s : ByteArray) (hs : s.size ≤ 281474976710656) (h8 : 15 ≤ n₀) (J Jx : List Wd → World → Prop) (hJ : AbidesFrom B J)
    (hY : ∀ pre x W, J pre W → pre.length < s.size → YieldAt Fence.wide (n - 1) Tryz.prog l (encY x) W fun e W' =>
      (e = .returned (.bool true) ∧ J (pre ++ [x]) W' ∧ KeepB n₀ Bs W W') ∨ (e = .returned (.bool false) ∧ Jx (pre ++ [x]) W'))
    (W : World) (hn₀ : n₀ ≤ W.heap.size) (hBl : Bs < W.heap.size) (hV : Vars W) (hBs : W.cell? ⟨Bs, 0, none⟩ = some (.string s)) (h0 : J [] W) :
    CallsIn Fence.wide n Tryz.prog 95 #[.func (.yield l) #[] #[], .pointer (some ⟨Bs, 0, none⟩)] W fun e W' => (∃ v, e = .returned v) ∧
      ((∃ xs, xs = cutL s.data.toList ∧ J xs W') ∨ (∃ pre, (∃ r, cutL s.data.toList = pre ++ r) ∧ Jx pre W')) := by
  have hsl := hide (show s.data.toList.length = s.size from Array.length_toList ..)
  refine callsIn_of_wp Tryz.func95 rfl trivial ?_ rfl
  simp only [Tryz.ntmps95, List.size_toArray, List.length_cons, List.length_nil, Nat.reduceAdd, Nat.reduceSub, Array.replicate_succ, Array.replicate_zero, List.push_toArray, List.append_toArray, List.nil_append, List.cons_append]
  gi_wp2
  gi_loopw [3] (fun i wr => ∃ (k : Nat) (pre : List Wd), k ≤ s.size ∧ i = .int .i64 k ∧ Hid (cutL s.data.toList = pre ++ restL k (s.data.toList.drop k)) ∧ J pre wr ∧ KeepB n₀ Bs W wr ∧ W.heap.size ≤ wr.heap.size) (fun i _ => s.size - (intOf i).toNat)
  case atStart => exact ⟨0, [], Nat.zero_le _, rfl, hide rfl, h0, KeepB.refl _ _ _, Nat.le_refl _⟩
  case round =>
    obtain ⟨k, pre, hk, rfl, hcut, hJs, hnx, hsz⟩ := hrel
    have hbs : wr.cell? ⟨Bs, 0, none⟩ = some (.string s) := hnx.box.trans hBs
    have hVr : Vars wr := hV.on hnx.1 h8
    have hBr : Bs < wr.heap.size := by omega
    by_cases hlt : k < s.size
    · have hl : k < s.data.toList.length := by rw [unhide hsl]; exact hlt
      have hat := hide (at_data s k hlt)
      have hdr := hide (drop_cons _ _ hl)
      by_cases h32 : s[k].toNat = 32
      · have h32' : ((s[k].toNat : Int) == 32) = true := by simp [h32]
        have H := hide (show cutL s.data.toList = pre ++ restL (k + 1) (s.data.toList.drop (k + 1)) by
          rw [unhide hcut, unhide hdr, restL_blank _ _ (by rw [unhide hat]; exact h32)])
        clear h32
        gi_wp2
        go_roundw
        case rel => exact ⟨k + 1, pre, by omega, by go_num, H, hJs, hnx, hsz⟩
        case measure => simp [intOf]; omega
      · have h32' : ((s[k].toNat : Int) == 32) = false := by simp; omega
        obtain ⟨X, hX⟩ : ∃ X, X = s.extract k s.size := ⟨_, rfl⟩
        have HX := hide hX
        have hXl : X.data.toList = s.data.toList.drop k := by rw [hX, ext_list, ← unhide hsl, List.take_length]
        have hXz : X.size = s.size - k := by rw [show X.size = X.data.toList.length from (Array.length_toList ..).symm, hXl, List.length_drop, unhide hsl]
        have hcall := hide (show ∀ W, Vars W → Calls Tryz.prog 96 #[.string X] W fun e w' => e = .returned (encR (firstW (s.data.toList.drop k))) ∧ Below W.heap.size W w' from fun W hVW => by
          have := first23_c X W hVW (by omega) (by omega)
          rwa [hXl] at this)
        have hne : ¬ (s.data.toList[k]'hl).toNat = 32 := by rw [unhide hat]; exact h32
        clear hX hXl h32
        rcases hw : firstW (s.data.toList.drop k) with ⟨kk, tt, nn, len⟩ | e
        · have hlen := firstW_len hw
          have hr := restL_word k hne (by rw [← unhide hdr]; exact hw)
          rw [hw] at hcall
          clear hw
          have hc2 : cutL s.data.toList = (pre ++ [.word kk tt nn k]) ++ restL (k + len) (s.data.toList.drop (k + len)) := by
            rw [unhide hcut, unhide hdr, hr, ← unhide hdr, List.drop_drop]; simp
          have hpl : pre.length < s.size := by
            have := cutL_length s.data.toList
            rw [hc2, unhide hsl] at this
            simp at this; omega
          have hln : k + len ≤ s.size := by have := hlen.2; rw [List.length_drop, unhide hsl] at this; omega
          have hl1 := hlen.1
          have H := hide hc2
          clear hc2 hr hlen
          gi_wp2_with (refine ⟨trivial, ?_⟩; rw [← unhide HX]; gi_at_call 96; refine (callsIn_wide.2 (unhide hcall _ hVr)).mono ?_; rintro e w2 ⟨rfl, hb2⟩; simp only [encR]
                       have bq : Below wr.heap.size wr (w2.alloc (.cells #[.int .i64 kk, .string ⟨tt.toArray⟩, .int .i64 nn, .int .i64 k] 74)) := hb2.alloc hb2.size _
                       obtain ⟨fn, tmps, assign, body, hy, hR⟩ := hY pre (.word kk tt nn k) (w2.alloc (.cells #[.int .i64 kk, .string ⟨tt.toArray⟩, .int .i64 nn, .int .i64 k] 74)) (abides_below hJ hJs bq) hpl
                       dsimp only [encY] at hy)
          refine hR.mono ?_
          rintro e W3 (⟨rfl, hJ3, hk3⟩ | ⟨rfl, hJx3⟩)
          · gi_wp2
            go_roundw
            case rel => exact ⟨k + len, _, hln, by go_num, H, hJ3, (hnx.trans (KeepB.of_below bq (by omega) hBr)).trans hk3, by have := hk3.1.size; have := bq.size; omega⟩
            case measure => simp [intOf]; omega
          · gi_wp2
            refine bodyPost_ret (results_none rfl _ _ _) rfl ?_
            exact ⟨⟨_, rfl⟩, .inr ⟨_, ⟨_, unhide H⟩, hJx3⟩⟩
        · have hr := restL_bad k hne (by rw [← unhide hdr]; exact hw)
          rw [hw] at hcall
          clear hw
          have hc2 : cutL s.data.toList = pre ++ [.bad e] := by rw [unhide hcut, unhide hdr, hr]
          have hpl : pre.length < s.size := by
            have := cutL_length s.data.toList
            rw [hc2, unhide hsl] at this
            simp at this; omega
          have H := hide hc2
          clear hc2 hr
          gi_wp2_with (refine ⟨trivial, ?_⟩; rw [← unhide HX]; gi_at_call 96; refine (callsIn_wide.2 (unhide hcall _ hVr)).mono ?_; rintro e' w2 ⟨rfl, hb2⟩; simp only [encR]
                       have bq : Below wr.heap.size wr (w2.alloc (.cells #[.int .i64 0, .string ⟨#[]⟩, .int .i64 0, .int .i64 0] 74)) := hb2.alloc hb2.size _
                       obtain ⟨fn, tmps, assign, body, hy, hR⟩ := hY pre (.bad e) (w2.alloc (.cells #[.int .i64 0, .string ⟨#[]⟩, .int .i64 0, .int .i64 0] 74)) (abides_below hJ hJs bq) hpl
                       dsimp only [encY] at hy)
          refine hR.mono ?_
          rintro e' W3 (⟨rfl, hJ3, hk3⟩ | ⟨rfl, hJx3⟩)
          · gi_wp2
            refine bodyPost_ret (results_none rfl _ _ _) rfl ?_
            exact ⟨⟨_, rfl⟩, .inl ⟨_, (unhide H).symm, hJ3⟩⟩
          · gi_wp2
            refine bodyPost_ret (results_none rfl _ _ _) rfl ?_
            exact ⟨⟨_, rfl⟩, .inr ⟨_, ⟨[], by rw [List.append_nil]; exact unhide H⟩, hJx3⟩⟩
    · have H := hide (show cutL s.data.toList = pre by
        rw [unhide hcut, List.drop_eq_nil_of_le (by rw [unhide hsl]; omega), restL_nil, List.append_nil])
      gi_wp2
      go_end0
      exact ⟨⟨_, rfl⟩, .inl ⟨_, (unhide H).symm, hJs⟩⟩

set_option maxHeartbeats 1000000 in
theorem words16_in (n : Nat) (s : ByteArray) (w : World) :
    CallsIn Fence.wide n Tryz.prog 69 #[.string s] w fun e w' => e = .returned (.func (.func 95) #[] #[.pointer (some ⟨w.heap.size, 0, none⟩)]) ∧ w' = w.alloc (.cells #[.string s] 9) := by
  refine callsIn_of_wp Tryz.func69 rfl trivial ?_ rfl
  simp only [Tryz.ntmps69, List.size_toArray, List.length_cons, List.length_nil, Nat.reduceAdd, Nat.reduceSub, Array.replicate_succ, Array.replicate_zero, List.push_toArray, List.append_toArray, List.nil_append, List.cons_append]
  gi_wp2
  go_ret
  exact ⟨rfl, rfl⟩

theorem words_stops (n : Nat) (hn : 1 ≤ n) (Bs n₀ : Nat) (s : ByteArray) (hs : s.size ≤ 281474976710656) (w : World) (hV : Vars w) (h8 : 15 ≤ n₀) (hn₀ : n₀ ≤ w.heap.size) (hBs : Bs < w.heap.size) (hc : w.cell? ⟨Bs, 0, none⟩ = some (.string s)) :
    SeqStopsK Fence.wide n Tryz.prog 95 #[.pointer (some ⟨Bs, 0, none⟩)] encY (KeepB n₀ Bs) (fun xs => xs = cutL s.data.toList) (fun pre => ∃ r, cutL s.data.toList = pre ++ r) s.size w := fun l J Jx W hW hJ _ hY h0 =>
  words22_in n hn l Bs n₀ W.heap.size s hs h8 J Jx hJ hY W (Nat.le_trans hn₀ hW.size) (Nat.lt_of_lt_of_le hBs hW.size) (hV.on hW hV.size) ((hW.cell (p := ⟨Bs, 0, none⟩) hBs).trans hc) h0

end Go.Proofs.YtmhpakhnclkenaaGreatDoor

namespace Go.Proofs.YtmhpakhnclkenaaGreatDoor
open Go.RowKit Go.Shelf

theorem owns_lt {W : World} {base : Nat} {e : TypeId} {size : Nat} {v : Value} {n : Nat} {xs : List Value} (h : W.ownsRow base e size v n xs) {g : Nat} (hg : v.ownBlock = some g) : base ≤ g ∧ ∃ cur, W.heap[g]? = some (.cells cur e (0, 0)) := by
  rcases h.2 with ⟨rfl, _⟩ | ⟨g', cap, cur, rfl, hb, hg', _⟩
  · cases hg
  · cases hg; exact ⟨hb, cur, hg'⟩

theorem own_row {β : Type} (base : Nat) (e : TypeId) (size : Nat) (v : Value) (k : β → Nat) (f : β → List Value) : Own (fun s W => W.ownsRow base e size v (k s) (f s)) := by
  rintro s X Y row hr hg hrow
  refine hr.kept hg ?_
  rcases hr.2 with ⟨rfl, _⟩ | ⟨g, cap, cur, rfl, _, hgb, _⟩
  · exact .inl rfl
  · refine .inr fun e' => ?_
    obtain ⟨o, ho, hc⟩ := hrow g e'.symm
    rw [hgb] at ho; cases ho; cases hc

/-- One element more, in a row above the box that bears it. -/
theorem appended {W w1 : World} {base B : Nat} {t e : TypeId} {size : Nat} {cs : Array Value} {v v' : Value} {k m : Nat} {xs ys : List Value} {tmp : Obj} (i : Nat)
    (hb : Box W B t cs) (hlt : B < base) (hrow : W.ownsRow base e size v k xs) (hbase : base ≤ W.heap.size) (hown' : w1.ownsRow base e size v' m ys) (hgrow : (W.alloc tmp).grownBy w1 v.ownBlock) :
    Box w1 B t cs ∧ Box (w1.setCell ⟨B, i, none⟩ v') B t (cs.setIfInBounds i v') ∧ (w1.setCell ⟨B, i, none⟩ v').ownsRow base e size v' m ys ∧ KeepsOthers W (w1.setCell ⟨B, i, none⟩ v') ∧ (∀ k, k < base → k ≠ B → k < W.heap.size → (w1.setCell ⟨B, i, none⟩ v').heap[k]? = W.heap[k]?) ∧ ∀ n, n ≤ B → Below n W (w1.setCell ⟨B, i, none⟩ v') := by
  have hne : ∀ g, v.ownBlock = some g → base ≤ g := fun g hg => (owns_lt hrow hg).1
  have hb1 : Box w1 B t cs := (hgrow.block B (by have := hb.lt; simp; omega) (fun e' => by have := hne B e'.symm; omega)).trans (hb.alloc tmp)
  have hkp : ∀ k, k < base → k ≠ B → k < W.heap.size → (w1.setCell ⟨B, i, none⟩ v').heap[k]? = W.heap[k]? := by
    intro k hk hkB hl
    rw [setCell_block _ _ _ (by simp only; omega)]
    exact (hgrow.block k (by simp; omega) (fun e' => by have := hne k e'.symm; omega)).trans (Below.heap_alloc _ _ _ hl)
  refine ⟨hb1, hb1.set i v', owns_keep hown' (fun g hg _ => setCell_block _ _ _ (by have := (owns_lt hown' hg).1; simp only; omega)), ?_, hkp, ?_⟩
  · refine ((KeepsOthers.alloc W tmp).trans (KeepsOthers.of_grownBy hgrow fun j o ej hj => ?_)).trans (KeepsOthers.setCell _ _ _)
    rcases (hrow.alloc tmp).2 with ⟨rfl, _⟩ | ⟨g, cap, cur, rfl, _, hgb, _⟩
    · simp [Value.ownBlock] at ej
    · obtain rfl : g = j := by simpa [Value.ownBlock] using ej
      rw [hgb] at hj; cases hj; rfl
  · intro n hn
    refine (((Below.refl n W).alloc (by omega) tmp).grown hgrow (by simp; omega) fun j ej => ?_).setCell (p := ⟨B, i, none⟩) hn v'
    have := hne j ej
    omega
theorem cell_four_new (w : World) (x y z u : Value) (t : TypeId) : ∀ j v, [x, y, z, u][j]? = some v → (w.alloc (.cells #[x, y, z, u] t)).cell? ((⟨w.heap.size, 0, none⟩ : Addr).add j) = some v := by
  intro j v hj
  match j, hj with
  | 0, hj => simp at hj; subst hj; simp [Addr.add]
  | 1, hj => simp at hj; subst hj; simp [Addr.add]
  | 2, hj => simp at hj; subst hj; simp [Addr.add]
  | 3, hj => simp at hj; subst hj; simp [Addr.add]
  | j + 4, hj => simp at hj

end Go.Proofs.YtmhpakhnclkenaaGreatDoor

namespace Go.Proofs.YtmhpakhnclkenaaGreatDoor
open Go.RowKit Go.Shelf

attribute [local go_sem] Oper.semAt_some

theorem infoWord : (Tryz.prog.info? 74).map (fun i => (i.zero, i.size, i.bytes)) = some (some (.agg #[.int .i64 0, .string ⟨#[]⟩, .int .i64 0, .int .i64 0]), 4, 40) := by kernel_rfl

/-- The cells of a word. -/
def encC : Wd → List Value
  | .word k t n at_ => [.int .i64 k, .string ⟨t.toArray⟩, .int .i64 n, .int .i64 at_]
  | .bad _ => []
def cellsW (ts : List Wd) : List Value := ts.flatMap encC
theorem cellsW_append (a b : List Wd) : cellsW (a ++ b) = cellsW a ++ cellsW b := by simp [cellsW]

/-- What is wrong, as an error. -/
def errO (e : Int) : Value := if e = 0 then .nilIface else .iface 49 (.int .i64 e)
theorem errO_zero : errO 0 = .nilIface := rfl
theorem errO_ne {e : Int} (h : e ≠ 0) : errO e = .iface 49 (.int .i64 e) := if_neg h

theorem bad_mem_toks : ∀ (f at_ : Nat) (l : List UInt8) (e : Int), Wd.bad e ∈ toksL f at_ l → e = 12 ∨ e = 21
  | 0, _, _, _, h => by simp [toksL] at h
  | f + 1, at_, l, e, h => by
    cases l with
    | nil => simp [toksL] at h
    | cons c r =>
      simp only [toksL] at h
      split at h
      · exact bad_mem_toks f _ _ e h
      · split at h
        · rename_i e' hw
          rw [List.mem_singleton] at h
          cases h
          exact firstW_bad hw
        · rw [List.mem_cons] at h
          rcases h with h | h
          · cases h
          · exact bad_mem_toks f _ _ e h
theorem bad_mem {l : List UInt8} {e : Int} (h : Wd.bad e ∈ cutL l) : e = 12 ∨ e = 21 := bad_mem_toks _ _ _ _ h

set_option maxRecDepth 100000 in
set_option maxHeartbeats 4000000 in
theorem cut10_in (n : Nat) (hn : 3 ≤ n) (s : ByteArray) (w : World) (hV : Vars w) (hs : s.size ≤ 281474976710656) :
    CallsIn Fence.wide n Tryz.prog 41 #[.string s] w fun e W' => ∃ v, e = .returned (.tuple #[v, errO (errL 0 (cutL s.data.toList))]) ∧ W'.ownsRow w.heap.size 74 4 v (wordsL s.data.toList).length (cellsW (wordsL s.data.toList)) ∧ Below w.heap.size w W' := by
  have h1 : 1 ≤ n := by omega
  have hro : Fence.wide.round = none := rfl
  have hz := hV.size
  obtain ⟨i0, hi, hz0, hz1, hz2⟩ := info_parts infoWord
  refine callsIn_of_wp_marks Tryz.func41 rfl trivial ?_ rfl
  simp only [Tryz.ntmps41, List.size_toArray, List.length_cons, List.length_nil, Nat.reduceAdd, Nat.reduceSub, Array.replicate_succ, Array.replicate_zero, List.push_toArray, List.append_toArray, List.nil_append, List.cons_append]
  gi_wp2_with (refine ⟨trivial, ?_⟩; gi_at_call 69; refine (words16_in (n - 1) _ _).mono ?_; rintro e w' ⟨rfl, rfl⟩)
  have hW0 : ∃ W0, W0 = (((w.alloc (.cells #[.slice none 0 0] 59)).alloc (.cells #[.nilIface] 29)).alloc (.cells #[.slice none 0 0] 59)).alloc (.cells #[.string s] 9) := ⟨_, rfl⟩
  obtain ⟨W0, hW0⟩ := hW0
  have b0 : Box W0 w.heap.size 59 #[.slice none 0 0] := by rw [hW0]; exact (((Box.new w 59 _).alloc _).alloc _).alloc _
  have b1 : Box W0 (w.heap.size + 1) 29 #[.nilIface] := by
    rw [hW0]
    have := Box.new (w.alloc (.cells #[.slice none 0 0] 59)) 29 #[.nilIface]
    simp only [World.size_alloc] at this
    exact (this.alloc _).alloc _
  have b2 : Box W0 (w.heap.size + 1 + 1) 59 #[.slice none 0 0] := by
    rw [hW0]
    have := Box.new ((w.alloc (.cells #[.slice none 0 0] 59)).alloc (.cells #[.nilIface] 29)) 59 #[.slice none 0 0]
    simp only [World.size_alloc] at this
    exact this.alloc _
  have b3 : Box W0 (w.heap.size + 1 + 1 + 1) 9 #[.string s] := by
    rw [hW0]
    have := Box.new (((w.alloc (.cells #[.slice none 0 0] 59)).alloc (.cells #[.nilIface] 29)).alloc (.cells #[.slice none 0 0] 59)) 9 #[.string s]
    simp only [World.size_alloc] at this
    exact this
  have hB0 : Below w.heap.size w W0 := by rw [hW0]; exact ((((Below.refl _ _).alloc (Nat.le_refl _) _).alloc (by simp) _).alloc (by simp; omega) _).alloc (by simp; omega) _
  have sz0 : W0.heap.size = w.heap.size + 4 := by rw [hW0]; simp
  rw [← hW0]
  clear hW0
  refine wpIn_rangeFunc_ownH hro h1 (gf := 95) (lb := #[.pointer (some ⟨w.heap.size + 1 + 1 + 1, 0, none⟩)]) rfl trivial (enters_of Tryz.func95 (by kernel_rfl) rfl)
    (words_stops (n - 1) (by omega) (w.heap.size + 1 + 1 + 1) w.heap.size s hs W0 (hV.on hB0 hz) hz hB0.size b3.lt b3.one.1) KeepB.trans
    (fun W l o o' hl h hc hw => ⟨belowK_b (w := w) (Nat.le_refl _) W l o o' (by omega) h hc hw, (grownBy_putObj' W l o').block _ (by have := (Array.getElem?_eq_some_iff.1 h).1; omega) (by intro e; cases e; omega)⟩)
    (Below.refl _ _) (fun x => by cases x <;> rfl)
    (fun pre W => (Hid (∀ x ∈ pre, isWord x = true) ∧ pre.length ≤ 500 ∧ (∃ v, Box W (w.heap.size + 1 + 1) 59 #[v] ∧ W.ownsRow (w.heap.size + 4) 74 4 v pre.length (cellsW pre)) ∧ Box W w.heap.size 59 #[.slice none 0 0] ∧ Box W (w.heap.size + 1) 29 #[.nilIface] ∧ w.heap.size + 4 ≤ W.heap.size) ∧ Below w.heap.size w W)
    (fun c pre W => (c = .ret ∧ ∃ E : Int, Hid ((∀ r, errL 0 (pre ++ r) = E) ∧ (E = 12 ∨ Wd.bad E ∈ pre)) ∧ Box W w.heap.size 59 #[.slice none 0 0] ∧ Box W (w.heap.size + 1) 29 #[.iface 49 (.int .i64 E)]) ∧ Below w.heap.size w W)
    (OwnFrom.and (Own.from (fun pre A B row hs hg hr => by
      obtain ⟨hp, hl, ⟨v, h1, h2⟩, h3, h4, h5⟩ := hs
      exact ⟨hp, hl, ⟨v, box_own _ _ (fun _ => _) pre A B row h1 hg hr, own_row _ _ _ v (fun _ => _) (fun _ => _) pre A B row h2 hg hr⟩, box_own _ _ (fun _ => _) pre A B row h3 hg hr, box_own _ _ (fun _ => _) pre A B row h4 hg hr, Nat.le_trans h5 hg.size⟩) _) (ownFrom_below (Nat.le_refl _) hB0.size))
    (fun c => OwnFrom.and (Own.from (fun pre A B row hs hg hr => by
      obtain ⟨hc, E, hE, h3, h4⟩ := hs
      exact ⟨hc, E, hE, box_own _ _ (fun _ => _) pre A B row h3 hg hr, box_own _ _ (fun _ => _) pre A B row h4 hg hr⟩) _) (ownFrom_below (Nat.le_refl _) hB0.size))
    ⟨⟨hide (fun _ h => by cases h), Nat.zero_le _, ⟨_, b2, World.ownsRow_nil _ _ _ _⟩, b0, b1, by omega⟩, hB0⟩
    (fun x a1 W => ∃ (Bf : Nat) (u : Value) (ev : Value), (w.heap.size + 4 ≤ Bf ∧ (∃ ce, u = .agg ce ∧ Box W Bf 74 ce) ∧ #[u, ev] = encY x) ∧ a1 = { tmps := #[.string s, undef, .pointer (some ⟨w.heap.size, 0, none⟩), .pointer (some ⟨w.heap.size + 1, 0, none⟩), .pointer (some ⟨w.heap.size + 1 + 1, 0, none⟩), .pointer (some ⟨Bf, 0, none⟩), ev, .string s, .func (.func 95) #[] #[.pointer (some ⟨w.heap.size + 1 + 1 + 1, 0, none⟩)], u, ev, undef, undef, undef, undef, undef, undef, undef, undef, undef, undef, undef, undef], defers := [] })
    (fun x a1 q A B row hs hg hr => by
      obtain ⟨Bf, u, ev, ⟨h1, ⟨ce, h2, h3⟩, h4⟩, h5⟩ := hs
      exact ⟨Bf, u, ev, ⟨h1, ⟨ce, h2, box_own _ _ (fun _ => _) q A B row h3 hg (fun r e => (hr r e).2)⟩, h4⟩, h5⟩) ?assign ?body ?done ?stop
  case assign =>
    rintro l pre x W K ⟨⟨hp, hl, ⟨v, hb, hr⟩, hb0, hb1, hsz⟩, hB⟩ hK
    have hs := hB.size
    cases x with
    | word kk tt nn at_ =>
      simp only [encY]
      gi_wp2
      refine hK _ _ ?_ ?_ ?_ ?_
      · exact (keeps_below ((Below.refl _ W).alloc (Nat.le_refl _) _)).from _
      · exact KeepB.of_below ((Below.refl _ W).alloc (Nat.le_refl _) _) (by omega) (by omega)
      · exact ⟨⟨hp, hl, ⟨v, hb.alloc _, hr.alloc _⟩, hb0.alloc _, hb1.alloc _, by simp; omega⟩, hB.alloc hs _⟩
      · exact ⟨W.heap.size, _, _, ⟨hsz, ⟨_, rfl, Box.new W 74 _⟩, rfl⟩, rfl⟩
    | bad e =>
      simp only [encY]
      gi_wp2
      refine hK _ _ ?_ ?_ ?_ ?_
      · exact (keeps_below ((Below.refl _ W).alloc (Nat.le_refl _) _)).from _
      · exact KeepB.of_below ((Below.refl _ W).alloc (Nat.le_refl _) _) (by omega) (by omega)
      · exact ⟨⟨hp, hl, ⟨v, hb.alloc _, hr.alloc _⟩, hb0.alloc _, hb1.alloc _, by simp; omega⟩, hB.alloc hs _⟩
      · exact ⟨W.heap.size, _, _, ⟨hsz, ⟨_, rfl, Box.new W 74 _⟩, rfl⟩, rfl⟩
  case body =>
    rintro l pre x a1 W hl0 hr0 ⟨⟨hp, hl, ⟨v, hb, hrow⟩, hb0, hb1, hsz⟩, hB⟩ ⟨Bf, u, ev, ⟨hBf, ⟨ce, rfl, hbf⟩, hex⟩, rfl⟩ hlt
    obtain ⟨hc0, hf0⟩ := hb0.one
    obtain ⟨hc1, hf1⟩ := hb1.one
    obtain ⟨hc2, hf2⟩ := hb.one
    obtain ⟨av, cv, rfl⟩ := owns_form hrow
    cases x with
    | bad e =>
      obtain ⟨rfl, rfl⟩ : ce = #[.int .i64 0, .string ⟨#[]⟩, .int .i64 0, .int .i64 0] ∧ ev = .iface 49 (.int .i64 e) := by
        simp [encY] at hex; exact hex
      have H := hide (show (∀ r, errL 0 ((pre ++ [Wd.bad e]) ++ r) = e) ∧ (e = 12 ∨ Wd.bad e ∈ pre ++ [Wd.bad e]) from
        ⟨fun r => by rw [List.append_assoc, errL_append pre 0 _ (unhide hp) (by omega)]; rfl, .inr (by simp)⟩)
      gi_wp2
      exact ⟨((KeepsOthers.setCell _ _ _).trans (KeepsOthers.setCell _ _ _)).from _, ⟨rfl, e, H, (hb0.set 0 (.slice none 0 0)).other ⟨w.heap.size + 1, 0, none⟩ _ (by simp), (hb1.other ⟨w.heap.size, 0, none⟩ _ (by simp)).set 0 (.iface 49 (.int .i64 e))⟩, (hB.setCell (p := ⟨w.heap.size, 0, none⟩) (Nat.le_refl _) _).setCell (p := ⟨w.heap.size + 1, 0, none⟩) (by simp) _⟩
    | word kk tt nn at_ =>
      obtain ⟨rfl, rfl⟩ : ce = #[.int .i64 kk, .string ⟨tt.toArray⟩, .int .i64 nn, .int .i64 at_] ∧ ev = .nilIface := by
        simp [encY] at hex; exact hex
      by_cases h500 : pre.length = 500
      · have H := hide (show (∀ r, errL 0 ((pre ++ [Wd.word kk tt nn at_]) ++ r) = 12) ∧ ((12 : Int) = 12 ∨ Wd.bad 12 ∈ pre ++ [Wd.word kk tt nn at_]) from
          ⟨fun r => by rw [List.append_assoc, errL_append pre 0 _ (unhide hp) (by omega), h500]; rfl, .inl rfl⟩)
        have h500' : ((pre.length : Int) == 500) = true := by simp [h500]
        clear h500
        gi_wp2
        exact ⟨((KeepsOthers.setCell _ _ _).trans (KeepsOthers.setCell _ _ _)).from _, ⟨rfl, 12, hide ⟨(unhide H).1, .inl rfl⟩, (hb0.set 0 (.slice none 0 0)).other ⟨w.heap.size + 1, 0, none⟩ _ (by simp), (hb1.other ⟨w.heap.size, 0, none⟩ _ (by simp)).set 0 (.iface 49 (.int .i64 12))⟩, (hB.setCell (p := ⟨w.heap.size, 0, none⟩) (Nat.le_refl _) _).setCell (p := ⟨w.heap.size + 1, 0, none⟩) (by simp) _⟩
      · have h500' : ((pre.length : Int) == 500) = false := by simp; omega
        have hl1 : pre.length + 1 ≤ 500 := by omega
        have H := hide (show ∀ x ∈ pre ++ [Wd.word kk tt nn at_], isWord x = true from fun x hx => by
          rcases List.mem_append.1 hx with h | h
          · exact unhide hp x h
          · rw [List.mem_singleton.1 h]; rfl)
        obtain ⟨d0, d1, d2, d3, -⟩ := hbf.four8
        have hsq := hb.lt
        clear h500 hp
        gi_wp2_with (gi_at_builtin; refine wpListIn_append_own_at _ rfl _ _ 59 rfl (w.heap.size + 4) 74 i0 (.agg #[.int .i64 0, .string ⟨#[]⟩, .int .i64 0, .int .i64 0]) 4 40 Tryz.underlying59 hi hz0 hz1 hz2 rfl (by decide) _ _ _ rfl (hrow.alloc _) ⟨W.heap.size, 0, none⟩ 1 1 [.int .i64 kk, .string ⟨tt.toArray⟩, .int .i64 nn, .int .i64 at_] rfl rfl (cell_four_new _ _ _ _ _ _) (by simp [Value.oneCell']) (by unfold maxLen; omega) (by omega) (by simp; omega) ?_; intro v' w2 hown' hgrow _ _; obtain ⟨g', cap', rfl⟩ := ownsRow_succ hown'; obtain ⟨hv1, hv2, hr2, hk2, hkk, hbb⟩ := appended 0 hb (by omega) hrow (by omega) hown' hgrow; obtain ⟨hd0, hfz⟩ := hv1.one)
        have e1 : (pre ++ [Wd.word kk tt nn at_]).length = pre.length + 1 := by simp
        have e2 : cellsW (pre ++ [Wd.word kk tt nn at_]) = cellsW pre ++ [.int .i64 kk, .string ⟨tt.toArray⟩, .int .i64 nn, .int .i64 at_] := by rw [cellsW_append]; rfl
        have old : ∀ k, k < w.heap.size + 2 → (w2.setCell ⟨w.heap.size + 1 + 1, 0, none⟩ (.slice (some ⟨g', 0, none⟩) (pre.length + 1) cap')).heap[k]? = W.heap[k]? := fun k hk => hkk k (by omega) (by omega) (by omega)
        refine ⟨hk2.from _, ⟨hbb _ (by omega), hkk _ (by omega) (by omega) (by omega)⟩, ⟨H, by rw [e1]; exact hl1, ⟨_, hv2, by rw [e1, e2]; exact hr2⟩, (old _ (by omega)).trans hb0, (old _ (by omega)).trans hb1, ?_⟩, hB.trans (hbb _ (by omega))⟩
        have := (hbb 0 (by omega)).size
        omega
  case done =>
    rintro D ys W hD rfl ⟨⟨hp, hl, ⟨v, hb, hrow⟩, hb0, hb1, hsz⟩, hB⟩ hK
    obtain ⟨hc0, hf0⟩ := hb0.one
    obtain ⟨hc1, hf1⟩ := hb1.one
    obtain ⟨hc2, hf2⟩ := hb.one
    obtain ⟨av, cv, rfl⟩ := owns_form hrow
    have hrow' := hide hrow
    clear hrow
    gi_wp2
    have kk := (KeepsOthers.setCell W ⟨w.heap.size, 0, none⟩ (.slice av (cutL s.data.toList).length cv)).trans (KeepsOthers.setCell _ ⟨w.heap.size + 1, 0, none⟩ .nilIface)
    have hK' := kk.same D _ hK rfl
    refine ⟨by simp, .inl ⟨_, _, rfl, run_takeDeferred hK', ?_⟩⟩
    have q0 := ((((hb0.set 0 (.slice av (cutL s.data.toList).length cv)).other ⟨w.heap.size + 1, 0, none⟩ .nilIface (by simp)).put hK' rfl (.deferred none)).one).1
    have q1 := ((((hb1.other ⟨w.heap.size, 0, none⟩ (.slice av (cutL s.data.toList).length cv) (by simp)).set 0 .nilIface).put hK' rfl (.deferred none)).one).1
    have e0 : errL 0 (cutL s.data.toList) = 0 := errL_all _ (unhide hp) hl
    refine ⟨.tuple #[.slice av (cutL s.data.toList).length cv, .nilIface], ?_, .slice av (cutL s.data.toList).length cv, by rw [e0]; rfl, ?_, ((hB.setCell (p := ⟨w.heap.size, 0, none⟩) (Nat.le_refl _) _).setCell (p := ⟨w.heap.size + 1, 0, none⟩) (by simp) _).trans (belowK_b (w := w) (Nat.le_refl _) _ D _ _ (by omega) hK' rfl rfl)⟩
    · simp [results, Tryz.f41, go_sem, q0, q1]
    · have hw : wordsL s.data.toList = cutL s.data.toList := by rw [wordsL, if_pos e0]
      rw [hw]
      refine owns_base (by omega) (ownsRow_putObj (owns_keep (unhide hrow') fun g hg _ => ?_) _ hK' rfl)
      have := (owns_lt (unhide hrow') hg).1
      rw [setCell_block _ _ _ (by simp only; omega), setCell_block _ _ _ (by simp only; omega)]
  case stop =>
    rintro D c pre W hD ⟨r, hr⟩ ⟨⟨rfl, E, hE, hb0, hb1⟩, hB⟩ hK
    gi_wp2
    refine ⟨by simp, .inl ⟨_, _, rfl, run_takeDeferred hK, ?_⟩⟩
    have q0 := ((hb0.put hK rfl (.deferred none)).one).1
    have q1 := ((hb1.put hK rfl (.deferred none)).one).1
    have e0 : errL 0 (cutL s.data.toList) = E := by rw [hr]; exact (unhide hE).1 r
    have hne : E ≠ 0 := by
      rcases (unhide hE).2 with rfl | hm
      · decide
      · have := bad_mem (l := s.data.toList) (e := E) (by rw [hr]; exact List.mem_append_left _ hm)
        omega
    have hw : wordsL s.data.toList = [] := by rw [wordsL, if_neg (by rw [e0]; exact hne)]
    refine ⟨.tuple #[.slice none 0 0, .iface 49 (.int .i64 E)], ?_, .slice none 0 0, by rw [e0, errO_ne hne], by rw [hw]; exact World.ownsRow_nil _ _ _ _, hB.trans (belowK_b (w := w) (Nat.le_refl _) W D _ _ (by omega) hK rfl rfl)⟩
    simp [results, Tryz.f41, go_sem, q0, q1]

theorem cut10_c (s : ByteArray) (w : World) (hV : Vars w) (hs : s.size ≤ 281474976710656) :
    Calls Tryz.prog 41 #[.string s] w fun e W' => ∃ v, e = .returned (.tuple #[v, errO (errL 0 (cutL s.data.toList))]) ∧ W'.ownsRow w.heap.size 74 4 v (wordsL s.data.toList).length (cellsW (wordsL s.data.toList)) ∧ Below w.heap.size w W' :=
  callsIn_wide.1 (cut10_in 3 (Nat.le_refl _) s w hV hs)

end Go.Proofs.YtmhpakhnclkenaaGreatDoor
