/-
  What slots gives: for every type and event, in whatever world: each field with the value in its place, in their turn, till one of the two ends or it is told to stop; nothing that lay is turned.
  What a range over slots meets: for every type of at most 5 fields and event of at most 20 values, in whatever world.
-/
import Derived.Test.YtcjpaldijngnpaaGreatDoorWhole
namespace Go.Proofs.YtcjpaldijngnpaaGreatDoor
open Go.RowKit Go.Shelf

attribute [local go_sem] Oper.semAt_some

/-- A field and the value in its place, as they are handed on. -/
abbrev Sl := Fd × Vl
abbrev slV (x : Sl) : Array Value := #[.agg #[.string x.1.1.1, .int .i64 x.1.2], .agg #[.int .i64 x.2.1, .int .i64 x.2.2.1, .string x.2.2.2.1]]
/-- The fields with the values in their places, the first k of them. -/
def slTo (fs : List Fd) (vs : List Vl) (k : Nat) : List Sl := (List.range k).map fun j => (fd fs j, vl vs j)
theorem slTo_succ (fs : List Fd) (vs : List Vl) (k : Nat) : slTo fs vs (k + 1) = slTo fs vs k ++ [(fd fs k, vl vs k)] := by simp [slTo, List.range_succ]
theorem slTo_length (fs : List Fd) (vs : List Vl) (k : Nat) : (slTo fs vs k).length = k := by simp [slTo]

set_option maxRecDepth 100000 in
set_option maxHeartbeats 2000000 in
theorem slots1_in (n : Nat) (hn : 1 ≤ n) (l Bt Be n₀ bf of' bv ov cf cv : Nat) (fs : List Fd) (vs : List Vl) (m : Nat) (hm : m = min fs.length vs.length) (h5 : fs.length ≤ 5) (hBt : Bt < n₀) (hBe : Be < n₀) (hbf : bf < n₀) (hbv : bv < n₀) (J Jx : List Sl → World → Prop)
    (hdr : ∀ pre W, J pre W → J pre W.drew)
    (hY : ∀ pre x W, J pre W → pre.length < m → YieldAt Fence.wide (n - 1) Tryz.prog l (slV x) W fun e W' =>
      (e = .returned (.bool true) ∧ J (pre ++ [x]) W' ∧ Below n₀ W W') ∨ (e = .returned (.bool false) ∧ Jx (pre ++ [x]) W'))
    (W : World) (hct : W.cell? ⟨Bt, 1, none⟩ = some (.slice (some ⟨bf, of', none⟩) fs.length cf)) (hce : W.cell? ⟨Be, 2, none⟩ = some (.slice (some ⟨bv, ov, none⟩) vs.length cv))
    (hcf : ∀ j, j < fs.length → W.cell? ⟨bf, of' + j * 2, none⟩ = some (.string (fd fs j).1.1) ∧ W.cell? ⟨bf, of' + j * 2 + 1, none⟩ = some (.int .i64 (fd fs j).2))
    (hcv : ∀ j, j < vs.length → W.cell? ⟨bv, ov + j * 3, none⟩ = some (.int .i64 (vl vs j).1) ∧ W.cell? ⟨bv, ov + j * 3 + 1, none⟩ = some (.int .i64 (vl vs j).2.1) ∧ W.cell? ⟨bv, ov + j * 3 + 2, none⟩ = some (.string (vl vs j).2.2.1)) (h0 : J [] W) :
    CallsIn Fence.wide n Tryz.prog 98 #[.func (.yield l) #[] #[], .pointer (some ⟨Bt, 0, none⟩), .pointer (some ⟨Be, 0, none⟩)] W fun e W' => (∃ v, e = .returned v) ∧
      (J (slTo fs vs m) W' ∨ (∃ k, k ≤ m ∧ Jx (slTo fs vs k) W')) := by
  have hM : (fs.length ≤ vs.length ∧ Hid (m = fs.length)) ∨ (vs.length < fs.length ∧ Hid (m = vs.length)) := by
    rcases Nat.lt_or_ge vs.length fs.length with h | h
    · exact .inr ⟨h, hide (by omega)⟩
    · exact .inl ⟨h, hide (by omega)⟩
  have hmf : m ≤ fs.length := by omega
  have hmv : m ≤ vs.length := by omega
  clear hm
  refine callsIn_of_wp Tryz.func98 rfl trivial ?_ rfl
  simp only [Tryz.ntmps98, List.size_toArray, List.length_cons, List.length_nil, Nat.reduceAdd, Nat.reduceSub, Array.replicate_succ, Array.replicate_zero, List.push_toArray, List.append_toArray, List.nil_append, List.cons_append]
  rcases hM with ⟨hle, hM⟩ | ⟨hle, hM⟩
  all_goals
    gi_wp2
    rw [← unhide hM]
    clear hM hle
    gi_loopw [12] (fun i wr => ∃ k : Nat, k ≤ m ∧ i = .int .i64 k ∧ J (slTo fs vs k) wr ∧ Below n₀ W wr) (fun i _ => m - (intOf i).toNat)
    case atStart => exact ⟨0, Nat.zero_le _, rfl, h0, Below.refl _ _⟩
    case round =>
      obtain ⟨k, hk, rfl, hJs, hnx⟩ := hrel
      by_cases hlt : k < m
      · have ht1 : wr.cell? ⟨Bt, 1, none⟩ = some (.slice (some ⟨bf, of', none⟩) fs.length cf) := (hnx.cell (p := ⟨Bt, 1, none⟩) hBt).trans hct
        have he2 : wr.cell? ⟨Be, 2, none⟩ = some (.slice (some ⟨bv, ov, none⟩) vs.length cv) := (hnx.cell (p := ⟨Be, 2, none⟩) hBe).trans hce
        have hf1 : wr.cell? ⟨bf, of' + k * 2, none⟩ = some (.string (fd fs k).1.1) := (hnx.cell (p := ⟨bf, of' + k * 2, none⟩) hbf).trans (hcf k (by omega)).1
        have hf2 : wr.cell? ⟨bf, of' + k * 2 + 1, none⟩ = some (.int .i64 (fd fs k).2) := (hnx.cell (p := ⟨bf, of' + k * 2 + 1, none⟩) hbf).trans (hcf k (by omega)).2
        have hv1 : wr.cell? ⟨bv, ov + k * 3, none⟩ = some (.int .i64 (vl vs k).1) := (hnx.cell (p := ⟨bv, ov + k * 3, none⟩) hbv).trans (hcv k (by omega)).1
        have hv2 : wr.cell? ⟨bv, ov + k * 3 + 1, none⟩ = some (.int .i64 (vl vs k).2.1) := (hnx.cell (p := ⟨bv, ov + k * 3 + 1, none⟩) hbv).trans (hcv k (by omega)).2.1
        have hv3 : wr.cell? ⟨bv, ov + k * 3 + 2, none⟩ = some (.string (vl vs k).2.2.1) := (hnx.cell (p := ⟨bv, ov + k * 3 + 2, none⟩) hbv).trans (hcv k (by omega)).2.2
        have hmx : Tryz.prog.follows .mixedOrders = true := by kernel_rfl
        obtain ⟨fn, tmps, assign, body, hy, hR⟩ := (hY _ (fd fs k, vl vs k) wr.drew (hdr _ _ hJs) (by rw [slTo_length]; omega)).mono
          (R' := fun e W' => ∃ bb : Bool, e = .returned (.bool bb) ∧ Hid ((bb = true ∧ J (slTo fs vs k ++ [(fd fs k, vl vs k)]) W' ∧ Below n₀ wr.drew W') ∨ (bb = false ∧ Jx (slTo fs vs k ++ [(fd fs k, vl vs k)]) W')))
          (fun e W' h => by
            rcases h with ⟨rfl, h⟩ | ⟨rfl, h⟩
            · exact ⟨true, rfl, .inl ⟨rfl, h⟩⟩
            · exact ⟨false, rfl, .inr ⟨rfl, h⟩⟩)
        dsimp only [slV] at hy
        have hk2 : (0 : Int) ≤ k := by omega
        have hk3 : (k : Int) < fs.length := by omega
        have hk4 : (k : Int) < vs.length := by omega
        gi_wp2
        gi_region_with_o (refine hR.mono ?_; rintro e W3 ⟨bb, rfl, hbb⟩)
        all_goals
          rcases unhide hbb with ⟨rfl, hJ3, hk3⟩ | ⟨rfl, hJx3⟩
          · clear hbb hR hy
            gi_wp2
            go_roundw
            case rel => exact ⟨k + 1, by omega, by go_num, by rw [slTo_succ]; exact hJ3, hnx.drew.trans hk3⟩
            case measure => simp [intOf]; omega
          · clear hbb hR hy
            gi_wp2
            refine bodyPost_ret (results_none rfl _ _ _) rfl ?_
            exact ⟨⟨_, rfl⟩, .inr ⟨k + 1, by omega, by rw [slTo_succ]; exact hJx3⟩⟩
      · have hke : k = m := by omega
        have H := hide hke
        clear hke
        gi_wp2
        go_end0
        exact ⟨⟨_, rfl⟩, .inl (by rw [← unhide H]; exact hJs)⟩

end Go.Proofs.YtcjpaldijngnpaaGreatDoor

namespace Go.Proofs.YtcjpaldijngnpaaGreatDoor
open Go.RowKit Go.Shelf

attribute [local go_sem] Oper.semAt_some

set_option maxRecDepth 100000 in
set_option maxHeartbeats 1000000 in
theorem slots1_nil_in (n : Nat) (l Bt Be : Nat) (a a' : Option Addr) (nf nv cf cv : Nat) (h : nf = 0 ∨ nv = 0) (J : List Sl → World → Prop) (W : World)
    (hct : W.cell? ⟨Bt, 1, none⟩ = some (.slice a nf cf)) (hce : W.cell? ⟨Be, 2, none⟩ = some (.slice a' nv cv)) (h0 : J [] W) :
    CallsIn Fence.wide n Tryz.prog 98 #[.func (.yield l) #[] #[], .pointer (some ⟨Bt, 0, none⟩), .pointer (some ⟨Be, 0, none⟩)] W fun e W' => (∃ v, e = .returned v) ∧ J [] W' := by
  refine callsIn_of_wp Tryz.func98 rfl trivial ?_ rfl
  simp only [Tryz.ntmps98, List.size_toArray, List.length_cons, List.length_nil, Nat.reduceAdd, Nat.reduceSub, Array.replicate_succ, Array.replicate_zero, List.push_toArray, List.append_toArray, List.nil_append, List.cons_append]
  have hc : nf = 0 ∨ (nv = 0 ∧ 0 < nf) := by omega
  clear h
  rcases hc with rfl | ⟨rfl, hp⟩
  · gi_wp2
    gi_loopw [12] (fun i wr => i = .int .i64 0 ∧ J [] wr) (fun _ _ => 0)
    case atStart => exact ⟨rfl, h0⟩
    case round =>
      obtain ⟨rfl, hJs⟩ := hrel
      gi_wp2
      go_end0
      exact ⟨⟨_, rfl⟩, hJs⟩
  · gi_wp2
    gi_loopw [12] (fun i wr => i = .int .i64 0 ∧ J [] wr) (fun _ _ => 0)
    case atStart => exact ⟨rfl, h0⟩
    case round =>
      obtain ⟨rfl, hJs⟩ := hrel
      gi_wp2
      go_end0
      exact ⟨⟨_, rfl⟩, hJs⟩

set_option maxHeartbeats 1000000 in
theorem slots_in (n : Nat) (nm t : ByteArray) (ts : Int) (af a : Option Addr) (nf cf nv cv : Nat) (w : World) :
    CallsIn Fence.wide n Tryz.prog 69 #[.agg #[.string nm, .slice af nf cf], .agg #[.string t, .int .i64 ts, .slice a nv cv]] w fun e w' => e = .returned (.func (.func 98) #[] #[.pointer (some ⟨w.heap.size, 0, none⟩), .pointer (some ⟨w.heap.size + 1, 0, none⟩)]) ∧ w' = (w.alloc (.cells #[.string nm, .slice af nf cf] 69)).alloc (.cells #[.string t, .int .i64 ts, .slice a nv cv] 28) := by
  refine callsIn_of_wp Tryz.func69 rfl trivial ?_ rfl
  simp only [Tryz.ntmps69, List.size_toArray, List.length_cons, List.length_nil, Nat.reduceAdd, Nat.reduceSub, Array.replicate_succ, Array.replicate_zero, List.push_toArray, List.append_toArray, List.nil_append, List.cons_append]
  gi_wp2
  go_ret
  exact ⟨rfl, rfl⟩

theorem slots_stops (n : Nat) (hn : 1 ≤ n) (Bt Be n₀ : Nat) (af a : Option Addr) (cf cv : Nat) (fs : List Fd) (vs : List Vl) (h5 : fs.length ≤ 5) (h20 : vs.length ≤ 20) (w : World) (hBt : Bt < n₀) (hBe : Be < n₀) (hn₀ : n₀ ≤ w.heap.size)
    (hct : w.cell? ⟨Bt, 1, none⟩ = some (.slice af fs.length cf)) (hce : w.cell? ⟨Be, 2, none⟩ = some (.slice a vs.length cv)) (hF : Flds n₀ w af fs) (hV : Vals n₀ w a vs) :
    SeqStopsK Fence.wide n Tryz.prog 98 #[.pointer (some ⟨Bt, 0, none⟩), .pointer (some ⟨Be, 0, none⟩)] slV (Below n₀) (fun ys => ys = slTo fs vs (min fs.length vs.length))
      (fun pre => ∃ k, k ≤ min fs.length vs.length ∧ pre = slTo fs vs k) (min fs.length vs.length) w := fun l J Jx W hW hJ _ hY h0 => by
  have hct' := (hW.cell (p := ⟨Bt, 1, none⟩) (Nat.lt_of_lt_of_le hBt hn₀)).trans hct
  have hce' := (hW.cell (p := ⟨Be, 2, none⟩) (Nat.lt_of_lt_of_le hBe hn₀)).trans hce
  by_cases hz : fs.length = 0 ∨ vs.length = 0
  · have hm : min fs.length vs.length = 0 := by omega
    refine (slots1_nil_in n l Bt Be af a _ _ cf cv hz J W hct' hce' h0).mono fun e W' ⟨he, hj⟩ => ⟨he, .inl ⟨_, rfl, ?_⟩⟩
    rw [hm]
    exact hj
  · rcases hF.below (hW.mono hn₀) with rfl | ⟨bf, of', rfl, hbf, hcf⟩
    · simp at hz
    rcases hV.below (hW.mono hn₀) with rfl | ⟨bv, ov, rfl, hbv, hcv⟩
    · simp at hz
    refine (slots1_in n hn l Bt Be n₀ bf of' bv ov cf cv fs vs _ rfl h5 hBt hBe hbf hbv J Jx (drew_of_abides hJ) hY W hct' hce' hcf hcv h0).mono ?_
    rintro e W' ⟨he, hj | ⟨k, hk, hj⟩⟩
    · exact ⟨he, .inl ⟨_, rfl, hj⟩⟩
    · exact ⟨he, .inr ⟨_, ⟨k, hk, rfl⟩, hj⟩⟩

end Go.Proofs.YtcjpaldijngnpaaGreatDoor
