/-
  What With answers: for every row of texts and every text, in whatever world: a new row that owns the texts of the row, and the text at its place, once; nothing that lay is turned.
-/
import Derived.Test.YthejndgnnlflhaaRise
namespace Go.Proofs.Ythejndgnnlflhaa
open Go.RowKit Go.Shelf

attribute [local go_sem] Oper.semAt_some

/-- One item more: what has been given, and whether x has its place. -/
def wStep (x : ByteArray) (st : List ByteArray × Bool) (y : ByteArray) : List ByteArray × Bool :=
  if st.2 = true then (st.1 ++ [y], true) else if Op.bytesLess x.toList y.toList = true then (st.1 ++ [x] ++ [y], true) else (st.1 ++ [y], x.toList == y.toList)
def wTo (x : ByteArray) (ss : List ByteArray) (k : Nat) : List ByteArray × Bool := (upto (fun j => ss[j]?.getD ByteArray.empty) k).foldl (wStep x) ([], false)
def wAll (x : ByteArray) (ss : List ByteArray) : List ByteArray := if (wTo x ss ss.length).2 = false then (wTo x ss ss.length).1 ++ [x] else (wTo x ss ss.length).1
theorem wTo_succ (x : ByteArray) (ss : List ByteArray) (k : Nat) : wTo x ss (k + 1) = wStep x (wTo x ss k) (ss[k]?.getD ByteArray.empty) := by simp [wTo, upto_succ]
theorem wTo_len (x : ByteArray) (ss : List ByteArray) (k : Nat) : (wTo x ss k).1.length ≤ k + (if (wTo x ss k).2 = false then 0 else 1) := by
  induction k with
  | zero => simp [wTo, upto]
  | succ k ih =>
    rw [wTo_succ]
    generalize wTo x ss k = st at ih
    unfold wStep
    split
    · simp_all
    · split <;> simp_all <;> (first | omega | (split <;> omega))

/-- What lay below n₀, and the block Bx, lie as they lay. -/
def KeepX (n₀ Bx : Nat) (W W' : World) : Prop := Below n₀ W W' ∧ W'.heap[Bx]? = W.heap[Bx]?
theorem KeepX.refl (n₀ Bx : Nat) (W : World) : KeepX n₀ Bx W W := ⟨Below.refl _ _, rfl⟩
theorem KeepX.trans {n₀ Bx : Nat} {A B C : World} (h : KeepX n₀ Bx A B) (k : KeepX n₀ Bx B C) : KeepX n₀ Bx A C := ⟨h.1.trans k.1, k.2.trans h.2⟩
theorem KeepX.cell {n₀ Bx : Nat} {A B : World} (h : KeepX n₀ Bx A B) {p : Addr} (hp : p.block < n₀) : B.cell? p = A.cell? p := h.1.cell hp
theorem KeepX.box {n₀ Bx : Nat} {A B : World} (h : KeepX n₀ Bx A B) : B.cell? ⟨Bx, 0, none⟩ = A.cell? ⟨Bx, 0, none⟩ := World.cell?_of_block (w := A) h.2

set_option maxRecDepth 100000 in
set_option maxHeartbeats 2000000 in
theorem with1_in (n : Nat) (hn : 1 ≤ n) (l Bs Bx n₀ b off len cap : Nat) (x : ByteArray) (ss : List ByteArray) (hlen : len = ss.length) (hreach : len * 16 ≤ 140737488351232) (hb : b < n₀) (J Jx : List ByteArray → World → Prop)
    (hY : ∀ pre y W, J pre W → pre.length < len + 1 → YieldAt Fence.wide (n - 1) Try.prog l #[.string y] W fun e W' =>
      (e = .returned (.bool true) ∧ J (pre ++ [y]) W' ∧ KeepX n₀ Bx W W') ∨ (e = .returned (.bool false) ∧ Jx (pre ++ [y]) W'))
    (W : World) (hBs : W.cell? ⟨Bs, 0, none⟩ = some (.slice (some ⟨b, off, none⟩) len cap)) (hBx : W.cell? ⟨Bx, 0, none⟩ = some (.string x)) (hc : ∀ j, j < len → W.cell? ⟨b, off + j, none⟩ = some (.string (ss[j]?.getD ByteArray.empty))) (h0 : J [] W) :
    CallsIn Fence.wide n Try.prog 30 #[.func (.yield l) #[] #[], .pointer (some ⟨Bs, 0, none⟩), .pointer (some ⟨Bx, 0, none⟩)] W fun e W' => (∃ v, e = .returned v) ∧
      (J (wAll x ss) W' ∨ (∃ pre, Jx pre W')) := by
  refine callsIn_of_wp Try.func30 rfl trivial ?_ rfl
  simp only [Try.ntmps30, List.size_toArray, List.length_cons, List.length_nil, Nat.reduceAdd, Nat.reduceSub, Array.replicate_succ, Array.replicate_zero, List.push_toArray, List.append_toArray, List.nil_append, List.cons_append]
  gi_wp2
  gi_loopw [4, 9] (fun p i wr => ∃ k : Nat, k ≤ len ∧ i = .int .i64 k ∧ p = .bool (wTo x ss k).2 ∧ J (wTo x ss k).1 wr ∧ KeepX n₀ Bx W wr)
    (fun _ i _ => len - (intOf i).toNat)
  case atStart => exact ⟨0, Nat.zero_le _, rfl, rfl, h0, KeepX.refl _ _ _⟩
  case round =>
    obtain ⟨k, hk, rfl, rfl, hJs, hnx⟩ := hrel
    have hbx : wr.cell? ⟨Bx, 0, none⟩ = some (.string x) := hnx.box.trans hBx
    have hln := wTo_len x ss k
    have Hs := hide (wTo_succ x ss k)
    by_cases hlt : k < len
    · have hck : wr.cell? ⟨b, off + k, none⟩ = some (.string (ss[k]?.getD ByteArray.empty)) := (hnx.cell (p := ⟨b, off + k, none⟩) hb).trans (hc k hlt)
      generalize ss[k]?.getD ByteArray.empty = y at hck Hs
      cases hp : (wTo x ss k).2
      · rw [hp] at hln
        simp only [if_true] at hln
        cases h2 : Op.bytesLess x.toList y.toList
        · cases h3 : (x.toList == y.toList)
          · have Hn := hide (show wTo x ss (k + 1) = ((wTo x ss k).1 ++ [y], false) by rw [unhide Hs]; simp [wStep, hp, h2, h3])
            obtain ⟨fn, tmps, assign, body, hy, hR⟩ := hY _ y wr hJs (by omega)
            clear hp
            gi_wp2
            refine hR.mono ?_
            rintro e W3 (⟨rfl, hJ3, hk3⟩ | ⟨rfl, hJx3⟩)
            · gi_wp2
              go_roundw
              case rel => exact ⟨k + 1, by omega, by go_num, by rw [unhide Hn], by rw [unhide Hn]; exact hJ3, hnx.trans hk3⟩
              case measure => simp [intOf]; omega
            · gi_wp2
              refine bodyPost_ret (results_none rfl _ _ _) rfl ?_
              exact ⟨⟨_, rfl⟩, .inr ⟨_, hJx3⟩⟩
          · have Hn := hide (show wTo x ss (k + 1) = ((wTo x ss k).1 ++ [y], true) by rw [unhide Hs]; simp [wStep, hp, h2, h3])
            obtain ⟨fn, tmps, assign, body, hy, hR⟩ := hY _ y wr hJs (by omega)
            clear hp
            gi_wp2
            refine ⟨fun _ h => (by cases h), ?_⟩
            gi_wp2
            refine hR.mono ?_
            rintro e W3 (⟨rfl, hJ3, hk3⟩ | ⟨rfl, hJx3⟩)
            · gi_wp2
              go_roundw
              case rel => exact ⟨k + 1, by omega, by go_num, by rw [unhide Hn], by rw [unhide Hn]; exact hJ3, hnx.trans hk3⟩
              case measure => simp [intOf]; omega
            · gi_wp2
              refine bodyPost_ret (results_none rfl _ _ _) rfl ?_
              exact ⟨⟨_, rfl⟩, .inr ⟨_, hJx3⟩⟩
        · have Hn := hide (show wTo x ss (k + 1) = ((wTo x ss k).1 ++ [x] ++ [y], true) by rw [unhide Hs]; simp [wStep, hp, h2])
          obtain ⟨fn, tmps, assign, body, hy, hR⟩ := hY _ x wr hJs (by omega)
          clear hp
          gi_wp2
          refine hR.mono ?_
          rintro e W3 (⟨rfl, hJ3, hk3⟩ | ⟨rfl, hJx3⟩)
          · obtain ⟨fn2, tmps2, assign2, body2, hy2, hR2⟩ := hY _ y W3 hJ3 (by simp; omega)
            clear hy hR
            gi_wp2
            refine hR2.mono ?_
            rintro e W4 (⟨rfl, hJ4, hk4⟩ | ⟨rfl, hJx4⟩)
            · gi_wp2
              go_roundw
              case rel => exact ⟨k + 1, by omega, by go_num, by rw [unhide Hn], by rw [unhide Hn]; exact hJ4, (hnx.trans hk3).trans hk4⟩
              case measure => simp [intOf]; omega
            · gi_wp2
              refine bodyPost_ret (results_none rfl _ _ _) rfl ?_
              exact ⟨⟨_, rfl⟩, .inr ⟨_, hJx4⟩⟩
          · gi_wp2
            refine bodyPost_ret (results_none rfl _ _ _) rfl ?_
            exact ⟨⟨_, rfl⟩, .inr ⟨_, hJx3⟩⟩
      · have Hn := hide (show wTo x ss (k + 1) = ((wTo x ss k).1 ++ [y], true) by rw [unhide Hs]; simp [wStep, hp])
        obtain ⟨fn, tmps, assign, body, hy, hR⟩ := hY _ y wr hJs (by rw [hp] at hln; simp at hln; omega)
        clear hp
        gi_wp2
        refine hR.mono ?_
        rintro e W3 (⟨rfl, hJ3, hk3⟩ | ⟨rfl, hJx3⟩)
        · gi_wp2
          go_roundw
          case rel => exact ⟨k + 1, by omega, by go_num, by rw [unhide Hn], by rw [unhide Hn]; exact hJ3, hnx.trans hk3⟩
          case measure => simp [intOf]; omega
        · gi_wp2
          refine bodyPost_ret (results_none rfl _ _ _) rfl ?_
          exact ⟨⟨_, rfl⟩, .inr ⟨_, hJx3⟩⟩
    · obtain rfl : k = len := by omega
      cases hp : (wTo x ss k).2
      · have Hn := hide (show wAll x ss = (wTo x ss k).1 ++ [x] by rw [hlen] at hp ⊢; simp [wAll, hp])
        rw [hp] at hln
        obtain ⟨fn, tmps, assign, body, hy, hR⟩ := hY _ x wr hJs (by simp at hln; omega)
        clear hp
        gi_wp2
        refine hR.mono ?_
        rintro e W3 (⟨rfl, hJ3, hk3⟩ | ⟨rfl, hJx3⟩)
        · gi_wp2
          go_end0
          exact ⟨⟨_, rfl⟩, .inl (by rw [unhide Hn]; exact hJ3)⟩
        · gi_wp2
          go_end0
          exact ⟨⟨_, rfl⟩, .inr ⟨_, hJx3⟩⟩
      · have Hn := hide (show wAll x ss = (wTo x ss k).1 by rw [hlen] at hp ⊢; simp [wAll, hp])
        clear hp
        gi_wp2
        go_end0
        exact ⟨⟨_, rfl⟩, .inl (by rw [unhide Hn]; exact hJs)⟩

set_option maxRecDepth 100000 in
set_option maxHeartbeats 2000000 in
theorem with1_nil_in (n : Nat) (hn : 1 ≤ n) (l Bs Bx n₀ : Nat) (a : Option Addr) (cap : Nat) (x : ByteArray) (J Jx : List ByteArray → World → Prop)
    (hY : ∀ pre y W, J pre W → pre.length < 1 → YieldAt Fence.wide (n - 1) Try.prog l #[.string y] W fun e W' =>
      (e = .returned (.bool true) ∧ J (pre ++ [y]) W' ∧ KeepX n₀ Bx W W') ∨ (e = .returned (.bool false) ∧ Jx (pre ++ [y]) W'))
    (W : World) (hBs : W.cell? ⟨Bs, 0, none⟩ = some (.slice a 0 cap)) (hBx : W.cell? ⟨Bx, 0, none⟩ = some (.string x)) (h0 : J [] W) :
    CallsIn Fence.wide n Try.prog 30 #[.func (.yield l) #[] #[], .pointer (some ⟨Bs, 0, none⟩), .pointer (some ⟨Bx, 0, none⟩)] W fun e W' => (∃ v, e = .returned v) ∧
      (J (wAll x []) W' ∨ (∃ pre, Jx pre W')) := by
  refine callsIn_of_wp Try.func30 rfl trivial ?_ rfl
  simp only [Try.ntmps30, List.size_toArray, List.length_cons, List.length_nil, Nat.reduceAdd, Nat.reduceSub, Array.replicate_succ, Array.replicate_zero, List.push_toArray, List.append_toArray, List.nil_append, List.cons_append]
  gi_wp2
  gi_loopw [4, 9] (fun p i wr => i = .int .i64 0 ∧ p = .bool false ∧ J [] wr ∧ wr.cell? ⟨Bx, 0, none⟩ = some (.string x)) (fun _ _ _ => 0)
  case atStart => exact ⟨rfl, rfl, h0, hBx⟩
  case round =>
    obtain ⟨rfl, rfl, hJs, hbx⟩ := hrel
    obtain ⟨fn, tmps, assign, body, hy, hR⟩ := hY _ x wr hJs (by simp)
    gi_wp2
    refine hR.mono ?_
    rintro e W3 (⟨rfl, hJ3, hk3⟩ | ⟨rfl, hJx3⟩)
    · gi_wp2
      go_end0
      exact ⟨⟨_, rfl⟩, .inl hJ3⟩
    · gi_wp2
      go_end0
      exact ⟨⟨_, rfl⟩, .inr ⟨_, hJx3⟩⟩

set_option maxHeartbeats 1000000 in
theorem with_in (n : Nat) (a : Option Addr) (len cap : Nat) (x : ByteArray) (w : World) :
    CallsIn Fence.wide n Try.prog 27 #[.slice a len cap, .string x] w fun e w' => e = .returned (.func (.func 30) #[] #[.pointer (some ⟨w.heap.size, 0, none⟩), .pointer (some ⟨w.heap.size + 1, 0, none⟩)]) ∧ w' = (w.alloc (.cells #[.slice a len cap] 48)).alloc (.cells #[.string x] 9) := by
  refine callsIn_of_wp Try.func27 rfl trivial ?_ rfl
  simp only [Try.ntmps27, List.size_toArray, List.length_cons, List.length_nil, Nat.reduceAdd, Nat.reduceSub, Array.replicate_succ, Array.replicate_zero, List.push_toArray, List.append_toArray, List.nil_append, List.cons_append]
  gi_wp2
  go_ret
  exact ⟨rfl, rfl⟩

theorem with_stops (n : Nat) (hn : 1 ≤ n) (Bs Bx n₀ : Nat) (sv : Value) (x : ByteArray) (ss : List ByteArray) (hreach : ss.length * 16 ≤ 140737488351232) (w : World) (hBs : Bs < w.heap.size) (hBx : Bx < w.heap.size) (hn₀ : n₀ ≤ w.heap.size)
    (hc : w.cell? ⟨Bs, 0, none⟩ = some sv) (hx : w.cell? ⟨Bx, 0, none⟩ = some (.string x)) (hI : Strs n₀ w sv ss) :
    SeqStopsK Fence.wide n Try.prog 30 #[.pointer (some ⟨Bs, 0, none⟩), .pointer (some ⟨Bx, 0, none⟩)] (fun y : ByteArray => #[Value.string y]) (KeepX n₀ Bx) (fun ys => ys = wAll x ss)
      (fun _ => True) (ss.length + 1) w := fun l J Jx W hW _ _ hY h0 => by
  have hc' := (hW.cell (p := ⟨Bs, 0, none⟩) hBs).trans hc
  have hx' := (hW.cell (p := ⟨Bx, 0, none⟩) hBx).trans hx
  rcases hI.below (hW.mono hn₀) with ⟨a, cap, rfl, rfl⟩ | ⟨b, off, cap, rfl, hb, hcs⟩
  · exact (with1_nil_in n hn l Bs Bx n₀ a cap x J Jx hY W hc' hx' h0).mono fun e W' ⟨he, hj⟩ => ⟨he, hj.elim (fun h => .inl ⟨_, rfl, h⟩) (fun ⟨pre, h⟩ => .inr ⟨pre, trivial, h⟩)⟩
  · exact (with1_in n hn l Bs Bx n₀ b off ss.length cap x ss rfl hreach hb J Jx hY W hc' hx' hcs h0).mono fun e W' ⟨he, hj⟩ => ⟨he, hj.elim (fun h => .inl ⟨_, rfl, h⟩) (fun ⟨pre, h⟩ => .inr ⟨pre, trivial, h⟩)⟩

end Go.Proofs.Ythejndgnnlflhaa
