/-
  What the walk over names of types and over names of fields give: for every row of them, in whatever world: each name in its turn, till it is told to stop; nothing that lay is turned.
-/
import Derived.Test.YtllpigbmkhanjaaIsT
import Derived.Test.YtllpigbmkhanjaaIter
import Derived.RangeFuncBox
import Derived.RangeFuncNested
import Derived.RangeFuncBound
import Derived.RangeFuncCalls
import Derived.RangeFuncLeaves
import Derived.Shelf.Abstract
import Derived.Shelf.RegionOpen
import Derived.OwnWalkIn
import Derived.TacticsInMore
import Derived.LoopNIn
import Derived.LoopIn
import Derived.Maps.AppendAt
namespace Go.Proofs.Ytllpigbmkhanjaa
open Go.RowKit Go.Shelf

attribute [local go_sem] Oper.semAt_some


attribute [local go_sem] Oper.semAt_some

theorem cell_lt {w : World} {a : Addr} {v : Value} (h : w.cell? a = some v) : a.block < w.heap.size := by
  rcases Nat.lt_or_ge a.block w.heap.size with h' | h'
  · exact h'
  · simp [World.cell?, Array.getElem?_eq_none h'] at h

attribute [local go_sem] Oper.semAt_some
/-- A text as memory bears it. -/

abbrev tx (l : List Txt) (j : Nat) : ByteArray := (l[j]?.getD default).1

theorem abides_alloc {α : Type} {B : Nat} {J : List α → World → Prop} (h : AbidesFrom B J) (pre : List α) (W : World) (o : Obj) (hj : J pre W) : J pre (W.alloc o) :=
  h pre W _ none hj (World.grownBy_alloc W o none) (fun r e => by cases e)

set_option maxRecDepth 100000 in
set_option maxHeartbeats 2000000 in
theorem types1_in (n : Nat) (hn : 1 ≤ n) (l Bs n₀ b off cap : Nat) (ns : List Txt) (hreach : ns.length ≤ 5) (hb : b < n₀) (J Jx : List Txt → World → Prop)
    (hal : ∀ pre W o, J pre W → J pre (W.alloc o))
    (hY : ∀ pre x W, J pre W → pre.length < ns.length → YieldAt Fence.wide (n - 1) Try.prog l #[.string x.1] W fun e W' =>
      (e = .returned (.bool true) ∧ J (pre ++ [x]) W' ∧ Below n₀ W W') ∨ (e = .returned (.bool false) ∧ Jx (pre ++ [x]) W'))
    (W : World) (hn₀ : n₀ ≤ W.heap.size) (hBs : W.cell? ⟨Bs, 0, none⟩ = some (.slice (some ⟨b, off, none⟩) ns.length cap))
    (hc : ∀ j, j < ns.length → W.cell? ⟨b, off + j * 2, none⟩ = some (.string (tx ns j)) ∧ ∃ a' l' c', W.cell? ⟨b, off + j * 2 + 1, none⟩ = some (.slice a' l' c')) (h0 : J [] W) :
    CallsIn Fence.wide n Try.prog 63 #[.func (.yield l) #[] #[], .pointer (some ⟨Bs, 0, none⟩)] W fun e W' => (∃ v, e = .returned v) ∧
      (J ns W' ∨ (∃ k, k ≤ ns.length ∧ Jx (ns.take k) W')) := by
  refine callsIn_of_wp Try.func63 rfl trivial ?_ rfl
  simp only [Try.ntmps63, List.size_toArray, List.length_cons, List.length_nil, Nat.reduceAdd, Nat.reduceSub, Array.replicate_succ, Array.replicate_zero, List.push_toArray, List.append_toArray, List.nil_append, List.cons_append]
  gi_wp2
  gi_loopw [7] (fun i wr => ∃ k : Nat, k ≤ ns.length ∧ i = .int .i64 k ∧ J (ns.take k) wr ∧ Below n₀ W wr)
    (fun i _ => ns.length - (intOf i).toNat)
  case atStart => exact ⟨0, Nat.zero_le _, rfl, h0, Below.refl _ _⟩
  case round =>
    obtain ⟨k, hk, rfl, hJs, hnx⟩ := hrel
    by_cases hlt : k < ns.length
    · obtain ⟨hc1', a', l', c', hc2'⟩ := hc k hlt
      have hc1 : wr.cell? ⟨b, off + k * 2, none⟩ = some (.string (tx ns k)) := (hnx.cell (p := ⟨b, off + k * 2, none⟩) hb).trans hc1'
      have hc2 : wr.cell? ⟨b, off + k * 2 + 1, none⟩ = some (.slice a' l' c') := (hnx.cell (p := ⟨b, off + k * 2 + 1, none⟩) hb).trans hc2'
      clear hc1' hc2'
      have hlen : (ns.take k).length < ns.length := by simp; omega
      have hsucc := hide (show ns.take k ++ [ns[k]?.getD default] = ns.take (k + 1) by rw [List.take_succ_eq_append_getElem hlt]; simp [hlt])
      obtain ⟨fn, tmps, assign, body, hy, hR⟩ := (hY _ (ns[k]?.getD default) (wr.alloc (.cells #[.string (tx ns k), .slice a' l' c'] 63)) (hal _ _ _ hJs) hlen).mono
        (R' := fun e W' => ∃ bb : Bool, e = .returned (.bool bb) ∧ Hid ((bb = true ∧ J (ns.take k ++ [ns[k]?.getD default]) W' ∧ Below n₀ (wr.alloc (.cells #[.string (tx ns k), .slice a' l' c'] 63)) W') ∨ (bb = false ∧ Jx (ns.take k ++ [ns[k]?.getD default]) W')))
        (fun e W' h => by
          rcases h with ⟨rfl, h⟩ | ⟨rfl, h⟩
          · exact ⟨true, rfl, .inl ⟨rfl, h⟩⟩
          · exact ⟨false, rfl, .inr ⟨rfl, h⟩⟩)
      gi_wp2
      refine hR.mono ?_
      rintro e W3 ⟨bb, rfl, hbb⟩
      rcases unhide hbb with ⟨rfl, hJ3, hk3⟩ | ⟨rfl, hJx3⟩
      · clear hbb hR hy
        gi_wp2
        go_roundw
        case rel => exact ⟨k + 1, by omega, by go_num, by rw [← unhide hsucc]; exact hJ3, (hnx.alloc (Nat.le_trans hn₀ hnx.size) _).trans hk3⟩
        case measure => simp [intOf]; omega
      · clear hbb hR hy
        gi_wp2
        refine bodyPost_ret (results_none rfl _ _ _) rfl ?_
        exact ⟨⟨_, rfl⟩, .inr ⟨k + 1, by omega, by rw [← unhide hsucc]; exact hJx3⟩⟩
    · have hke : k = ns.length := by omega
      have H := hide (show ns.take k = ns by rw [hke]; simp)
      clear hke
      gi_wp2
      go_end0
      exact ⟨⟨_, rfl⟩, .inl (by rw [← unhide H]; exact hJs)⟩

set_option maxRecDepth 100000 in
set_option maxHeartbeats 1000000 in
theorem types1_nil_in (n : Nat) (l Bs : Nat) (a : Option Addr) (cap : Nat) (J : List Txt → World → Prop) (W : World) (hBs : W.cell? ⟨Bs, 0, none⟩ = some (.slice a 0 cap)) (h0 : J [] W) :
    CallsIn Fence.wide n Try.prog 63 #[.func (.yield l) #[] #[], .pointer (some ⟨Bs, 0, none⟩)] W fun e W' => (∃ v, e = .returned v) ∧ J [] W' := by
  refine callsIn_of_wp Try.func63 rfl trivial ?_ rfl
  simp only [Try.ntmps63, List.size_toArray, List.length_cons, List.length_nil, Nat.reduceAdd, Nat.reduceSub, Array.replicate_succ, Array.replicate_zero, List.push_toArray, List.append_toArray, List.nil_append, List.cons_append]
  gi_wp2
  gi_loopw [7] (fun i wr => i = .int .i64 0 ∧ J [] wr) (fun _ _ => 0)
  case atStart => exact ⟨rfl, h0⟩
  case round =>
    obtain ⟨rfl, hJs⟩ := hrel
    gi_wp2
    go_end0
    exact ⟨⟨_, rfl⟩, hJs⟩

set_option maxHeartbeats 1000000 in
theorem types_in (n : Nat) (a : Option Addr) (len cap : Nat) (w : World) :
    CallsIn Fence.wide n Try.prog 55 #[.slice a len cap] w fun e w' => e = .returned (.func (.func 63) #[] #[.pointer (some ⟨w.heap.size, 0, none⟩)]) ∧ w' = w.alloc (.cells #[.slice a len cap] 35) := by
  refine callsIn_of_wp Try.func55 rfl trivial ?_ rfl
  simp only [Try.ntmps55, List.size_toArray, List.length_cons, List.length_nil, Nat.reduceAdd, Nat.reduceSub, Array.replicate_succ, Array.replicate_zero, List.push_toArray, List.append_toArray, List.nil_append, List.cons_append]
  gi_wp2
  go_ret
  exact ⟨rfl, rfl⟩

/-- The slice at a has these names (of types), below n₀. -/
def TNames (n₀ : Nat) (W : World) (a : Option Addr) (ns : List Txt) : Prop :=
  ns = [] ∨ ∃ b off, a = some ⟨b, off, none⟩ ∧ b < n₀ ∧ ∀ j, j < ns.length → W.cell? ⟨b, off + j * 2, none⟩ = some (.string (tx ns j)) ∧ ∃ a' l' c', W.cell? ⟨b, off + j * 2 + 1, none⟩ = some (.slice a' l' c')
theorem TNames.below {n₀ : Nat} {A B : World} (h : Below n₀ A B) {a : Option Addr} {ns : List Txt} : TNames n₀ A a ns → TNames n₀ B a ns
  | .inl e => .inl e
  | .inr ⟨b, off, e, hb, hc⟩ => .inr ⟨b, off, e, hb, fun j hj => by
      obtain ⟨h1, a', l', c', h2⟩ := hc j hj
      exact ⟨(h.cell (p := ⟨b, off + j * 2, none⟩) hb).trans h1, a', l', c', (h.cell (p := ⟨b, off + j * 2 + 1, none⟩) hb).trans h2⟩⟩

theorem types_stops (n : Nat) (hn : 1 ≤ n) (Bs n₀ : Nat) (a : Option Addr) (cap : Nat) (ns : List Txt) (hreach : ns.length ≤ 5) (w : World) (hBs : Bs < w.heap.size) (hn₀ : n₀ ≤ w.heap.size)
    (hc : w.cell? ⟨Bs, 0, none⟩ = some (.slice a ns.length cap)) (hI : TNames n₀ w a ns) :
    SeqStopsK Fence.wide n Try.prog 63 #[.pointer (some ⟨Bs, 0, none⟩)] (fun x : Txt => #[Value.string x.1]) (Below n₀) (fun ys => ys = ns)
      (fun pre => ∃ k, k ≤ ns.length ∧ pre = ns.take k) ns.length w := fun l J Jx W hW hJ _ hY h0 => by
  have hc' := (hW.cell (p := ⟨Bs, 0, none⟩) hBs).trans hc
  rcases hI.below (hW.mono hn₀) with rfl | ⟨b, off, rfl, hb, hcs⟩
  · exact (types1_nil_in n l Bs a cap J W hc' h0).mono fun e W' ⟨he, hj⟩ => ⟨he, .inl ⟨_, rfl, hj⟩⟩
  · refine (types1_in n hn l Bs n₀ b off cap ns hreach hb J Jx (fun pre W o => abides_alloc hJ pre W o) hY W (Nat.le_trans hn₀ hW.size) hc' hcs h0).mono ?_
    rintro e W' ⟨he, hj | ⟨k, hk, hj⟩⟩
    · exact ⟨he, .inl ⟨_, rfl, hj⟩⟩
    · exact ⟨he, .inr ⟨_, ⟨k, hk, rfl⟩, hj⟩⟩

set_option maxRecDepth 100000 in
set_option maxHeartbeats 2000000 in
theorem fields1_in (n : Nat) (hn : 1 ≤ n) (l Bs n₀ b off cap : Nat) (ns : List Txt) (hreach : ns.length ≤ 5) (hb : b < n₀) (J Jx : List Txt → World → Prop)
    (hal : ∀ pre W o, J pre W → J pre (W.alloc o))
    (hY : ∀ pre x W, J pre W → pre.length < ns.length → YieldAt Fence.wide (n - 1) Try.prog l #[.string x.1] W fun e W' =>
      (e = .returned (.bool true) ∧ J (pre ++ [x]) W' ∧ Below n₀ W W') ∨ (e = .returned (.bool false) ∧ Jx (pre ++ [x]) W'))
    (W : World) (hn₀ : n₀ ≤ W.heap.size) (hBs : W.cell? ⟨Bs, 0, none⟩ = some (.slice (some ⟨b, off, none⟩) ns.length cap))
    (hc : ∀ j, j < ns.length → W.cell? ⟨b, off + j * 2, none⟩ = some (.string (tx ns j)) ∧ ∃ v', W.cell? ⟨b, off + j * 2 + 1, none⟩ = some (.int .i64 v')) (h0 : J [] W) :
    CallsIn Fence.wide n Try.prog 64 #[.func (.yield l) #[] #[], .pointer (some ⟨Bs, 0, none⟩)] W fun e W' => (∃ v, e = .returned v) ∧
      (J ns W' ∨ (∃ k, k ≤ ns.length ∧ Jx (ns.take k) W')) := by
  refine callsIn_of_wp Try.func64 rfl trivial ?_ rfl
  simp only [Try.ntmps64, List.size_toArray, List.length_cons, List.length_nil, Nat.reduceAdd, Nat.reduceSub, Array.replicate_succ, Array.replicate_zero, List.push_toArray, List.append_toArray, List.nil_append, List.cons_append]
  gi_wp2
  gi_loopw [7] (fun i wr => ∃ k : Nat, k ≤ ns.length ∧ i = .int .i64 k ∧ J (ns.take k) wr ∧ Below n₀ W wr)
    (fun i _ => ns.length - (intOf i).toNat)
  case atStart => exact ⟨0, Nat.zero_le _, rfl, h0, Below.refl _ _⟩
  case round =>
    obtain ⟨k, hk, rfl, hJs, hnx⟩ := hrel
    by_cases hlt : k < ns.length
    · obtain ⟨hc1', v', hc2'⟩ := hc k hlt
      have hc1 : wr.cell? ⟨b, off + k * 2, none⟩ = some (.string (tx ns k)) := (hnx.cell (p := ⟨b, off + k * 2, none⟩) hb).trans hc1'
      have hc2 : wr.cell? ⟨b, off + k * 2 + 1, none⟩ = some (.int .i64 v') := (hnx.cell (p := ⟨b, off + k * 2 + 1, none⟩) hb).trans hc2'
      clear hc1' hc2'
      have hlen : (ns.take k).length < ns.length := by simp; omega
      have hsucc := hide (show ns.take k ++ [ns[k]?.getD default] = ns.take (k + 1) by rw [List.take_succ_eq_append_getElem hlt]; simp [hlt])
      obtain ⟨fn, tmps, assign, body, hy, hR⟩ := (hY _ (ns[k]?.getD default) (wr.alloc (.cells #[.string (tx ns k), .int .i64 v'] 60)) (hal _ _ _ hJs) hlen).mono
        (R' := fun e W' => ∃ bb : Bool, e = .returned (.bool bb) ∧ Hid ((bb = true ∧ J (ns.take k ++ [ns[k]?.getD default]) W' ∧ Below n₀ (wr.alloc (.cells #[.string (tx ns k), .int .i64 v'] 60)) W') ∨ (bb = false ∧ Jx (ns.take k ++ [ns[k]?.getD default]) W')))
        (fun e W' h => by
          rcases h with ⟨rfl, h⟩ | ⟨rfl, h⟩
          · exact ⟨true, rfl, .inl ⟨rfl, h⟩⟩
          · exact ⟨false, rfl, .inr ⟨rfl, h⟩⟩)
      gi_wp2
      refine hR.mono ?_
      rintro e W3 ⟨bb, rfl, hbb⟩
      rcases unhide hbb with ⟨rfl, hJ3, hk3⟩ | ⟨rfl, hJx3⟩
      · clear hbb hR hy
        gi_wp2
        go_roundw
        case rel => exact ⟨k + 1, by omega, by go_num, by rw [← unhide hsucc]; exact hJ3, (hnx.alloc (Nat.le_trans hn₀ hnx.size) _).trans hk3⟩
        case measure => simp [intOf]; omega
      · clear hbb hR hy
        gi_wp2
        refine bodyPost_ret (results_none rfl _ _ _) rfl ?_
        exact ⟨⟨_, rfl⟩, .inr ⟨k + 1, by omega, by rw [← unhide hsucc]; exact hJx3⟩⟩
    · have hke : k = ns.length := by omega
      have H := hide (show ns.take k = ns by rw [hke]; simp)
      clear hke
      gi_wp2
      go_end0
      exact ⟨⟨_, rfl⟩, .inl (by rw [← unhide H]; exact hJs)⟩

set_option maxRecDepth 100000 in
set_option maxHeartbeats 1000000 in
theorem fields1_nil_in (n : Nat) (l Bs : Nat) (a : Option Addr) (cap : Nat) (J : List Txt → World → Prop) (W : World) (hBs : W.cell? ⟨Bs, 0, none⟩ = some (.slice a 0 cap)) (h0 : J [] W) :
    CallsIn Fence.wide n Try.prog 64 #[.func (.yield l) #[] #[], .pointer (some ⟨Bs, 0, none⟩)] W fun e W' => (∃ v, e = .returned v) ∧ J [] W' := by
  refine callsIn_of_wp Try.func64 rfl trivial ?_ rfl
  simp only [Try.ntmps64, List.size_toArray, List.length_cons, List.length_nil, Nat.reduceAdd, Nat.reduceSub, Array.replicate_succ, Array.replicate_zero, List.push_toArray, List.append_toArray, List.nil_append, List.cons_append]
  gi_wp2
  gi_loopw [7] (fun i wr => i = .int .i64 0 ∧ J [] wr) (fun _ _ => 0)
  case atStart => exact ⟨rfl, h0⟩
  case round =>
    obtain ⟨rfl, hJs⟩ := hrel
    gi_wp2
    go_end0
    exact ⟨⟨_, rfl⟩, hJs⟩

set_option maxHeartbeats 1000000 in
theorem fields_in (n : Nat) (a : Option Addr) (len cap : Nat) (w : World) :
    CallsIn Fence.wide n Try.prog 57 #[.slice a len cap] w fun e w' => e = .returned (.func (.func 64) #[] #[.pointer (some ⟨w.heap.size, 0, none⟩)]) ∧ w' = w.alloc (.cells #[.slice a len cap] 61) := by
  refine callsIn_of_wp Try.func57 rfl trivial ?_ rfl
  simp only [Try.ntmps57, List.size_toArray, List.length_cons, List.length_nil, Nat.reduceAdd, Nat.reduceSub, Array.replicate_succ, Array.replicate_zero, List.push_toArray, List.append_toArray, List.nil_append, List.cons_append]
  gi_wp2
  go_ret
  exact ⟨rfl, rfl⟩

/-- The slice at a has these names (of fields), below n₀. -/
def FNames (n₀ : Nat) (W : World) (a : Option Addr) (ns : List Txt) : Prop :=
  ns = [] ∨ ∃ b off, a = some ⟨b, off, none⟩ ∧ b < n₀ ∧ ∀ j, j < ns.length → W.cell? ⟨b, off + j * 2, none⟩ = some (.string (tx ns j)) ∧ ∃ v', W.cell? ⟨b, off + j * 2 + 1, none⟩ = some (.int .i64 v')
theorem FNames.below {n₀ : Nat} {A B : World} (h : Below n₀ A B) {a : Option Addr} {ns : List Txt} : FNames n₀ A a ns → FNames n₀ B a ns
  | .inl e => .inl e
  | .inr ⟨b, off, e, hb, hc⟩ => .inr ⟨b, off, e, hb, fun j hj => by
      obtain ⟨h1, v', h2⟩ := hc j hj
      exact ⟨(h.cell (p := ⟨b, off + j * 2, none⟩) hb).trans h1, v', (h.cell (p := ⟨b, off + j * 2 + 1, none⟩) hb).trans h2⟩⟩

theorem fields_stops (n : Nat) (hn : 1 ≤ n) (Bs n₀ : Nat) (a : Option Addr) (cap : Nat) (ns : List Txt) (hreach : ns.length ≤ 5) (w : World) (hBs : Bs < w.heap.size) (hn₀ : n₀ ≤ w.heap.size)
    (hc : w.cell? ⟨Bs, 0, none⟩ = some (.slice a ns.length cap)) (hI : FNames n₀ w a ns) :
    SeqStopsK Fence.wide n Try.prog 64 #[.pointer (some ⟨Bs, 0, none⟩)] (fun x : Txt => #[Value.string x.1]) (Below n₀) (fun ys => ys = ns)
      (fun pre => ∃ k, k ≤ ns.length ∧ pre = ns.take k) ns.length w := fun l J Jx W hW hJ _ hY h0 => by
  have hc' := (hW.cell (p := ⟨Bs, 0, none⟩) hBs).trans hc
  rcases hI.below (hW.mono hn₀) with rfl | ⟨b, off, rfl, hb, hcs⟩
  · exact (fields1_nil_in n l Bs a cap J W hc' h0).mono fun e W' ⟨he, hj⟩ => ⟨he, .inl ⟨_, rfl, hj⟩⟩
  · refine (fields1_in n hn l Bs n₀ b off cap ns hreach hb J Jx (fun pre W o => abides_alloc hJ pre W o) hY W (Nat.le_trans hn₀ hW.size) hc' hcs h0).mono ?_
    rintro e W' ⟨he, hj | ⟨k, hk, hj⟩⟩
    · exact ⟨he, .inl ⟨_, rfl, hj⟩⟩
    · exact ⟨he, .inr ⟨_, ⟨k, hk, rfl⟩, hj⟩⟩

/-- The function value g over the box Bs gives these names, from w on. -/
def Gives (w : World) (g Bs : Nat) (ns : List Txt) : Prop :=
  (g = 63 ∨ g = 64) ∧ ns.length ≤ 5 ∧ ∀ n W, 1 ≤ n → Below w.heap.size w W → SeqStopsK Fence.wide n Try.prog g #[.pointer (some ⟨Bs, 0, none⟩)] (fun x : Txt => #[Value.string x.1]) (Below w.heap.size) (fun ys => ys = ns)
      (fun pre => ∃ k, k ≤ ns.length ∧ pre = ns.take k) ns.length W

theorem types_give (w : World) (a : Option Addr) (cap : Nat) (ns : List Txt) (hreach : ns.length ≤ 5) (hI : TNames w.heap.size w a ns) :
    Gives (w.alloc (.cells #[.slice a ns.length cap] 35)) 63 w.heap.size ns := by
  have bN := (Boxed.new w 35 (.slice a ns.length cap)).cell
  refine ⟨.inl rfl, hreach, fun n W hn hW => ?_⟩
  have hb : Below w.heap.size w W := ((Below.refl _ _).alloc (Nat.le_refl _) _).trans (hW.mono (by simp))
  have hs := hW.size
  rw [World.size_alloc] at hs
  refine types_stops n hn _ _ a cap ns hreach W (by omega) (by rw [World.size_alloc]; exact hs) ((hW.cell (p := ⟨w.heap.size, 0, none⟩) (by simp)).trans bN) ?_
  rcases hI.below hb with h | ⟨b, off, e, hb', hc⟩
  · exact .inl h
  · exact .inr ⟨b, off, e, by rw [World.size_alloc]; omega, hc⟩

theorem fields_give (w : World) (a : Option Addr) (cap : Nat) (ns : List Txt) (hreach : ns.length ≤ 5) (hI : FNames w.heap.size w a ns) :
    Gives (w.alloc (.cells #[.slice a ns.length cap] 61)) 64 w.heap.size ns := by
  have bN := (Boxed.new w 61 (.slice a ns.length cap)).cell
  refine ⟨.inr rfl, hreach, fun n W hn hW => ?_⟩
  have hb : Below w.heap.size w W := ((Below.refl _ _).alloc (Nat.le_refl _) _).trans (hW.mono (by simp))
  have hs := hW.size
  rw [World.size_alloc] at hs
  refine fields_stops n hn _ _ a cap ns hreach W (by omega) (by rw [World.size_alloc]; exact hs) ((hW.cell (p := ⟨w.heap.size, 0, none⟩) (by simp)).trans bN) ?_
  rcases hI.below hb with h | ⟨b, off, e, hb', hc⟩
  · exact .inl h
  · exact .inr ⟨b, off, e, by rw [World.size_alloc]; omega, hc⟩

theorem types_g (a : Option Addr) (cap : Nat) (ns : List Txt) (h5 : ns.length ≤ 5) (w : World) (hT : TNames w.heap.size w a ns) :
    Calls Try.prog 55 #[.slice a ns.length cap] w fun e w' => ∃ Bs, e = .returned (.func (.func 63) #[] #[.pointer (some ⟨Bs, 0, none⟩)]) ∧ Gives w' 63 Bs ns ∧ Below w.heap.size w w' := by
  refine (callsIn_wide.1 (types_in 1 a ns.length cap w)).mono ?_
  rintro e w' ⟨rfl, rfl⟩
  exact ⟨_, rfl, types_give w a cap ns h5 hT, (Below.refl _ _).alloc (Nat.le_refl _) _⟩


theorem fields_g (a : Option Addr) (cap : Nat) (ns : List Txt) (h5 : ns.length ≤ 5) (w : World) (hT : FNames w.heap.size w a ns) :
    Calls Try.prog 57 #[.slice a ns.length cap] w fun e w' => ∃ Bs, e = .returned (.func (.func 64) #[] #[.pointer (some ⟨Bs, 0, none⟩)]) ∧ Gives w' 64 Bs ns ∧ Below w.heap.size w w' := by
  refine (callsIn_wide.1 (fields_in 1 a ns.length cap w)).mono ?_
  rintro e w' ⟨rfl, rfl⟩
  exact ⟨_, rfl, fields_give w a cap ns h5 hT, (Below.refl _ _).alloc (Nat.le_refl _) _⟩


end Go.Proofs.Ytllpigbmkhanjaa
