/-
  What slots gives: for every type and event, in whatever world: each field with the value in its place, in their turn, till one of the two ends or it is told to stop; nothing that lay is turned.
-/
import Derived.Test.YtcjpaldijngnpaaGreatWhole
namespace Go.Proofs.YtcjpaldijngnpaaGreat
open Go.RowKit Go.Shelf

attribute [local go_sem] Oper.semAt_some

/-- A field and the value in its place, as they are handed on. -/
abbrev Sl := Fd × Vl
abbrev slV (x : Sl) : Array Value := #[.agg #[.string x.1.1.1, .int .i64 x.1.2], .agg #[.int .i64 x.2.1, .int .i64 x.2.2.1, .string x.2.2.2.1]]
/-- The fields with the values in their places, the first k of them. -/
def slTo (fs : List Fd) (vs : List Vl) (k : Nat) : List Sl := (List.range k).map fun j => (fd fs j, vl vs j)
theorem slTo_succ (fs : List Fd) (vs : List Vl) (k : Nat) : slTo fs vs (k + 1) = slTo fs vs k ++ [(fd fs k, vl vs k)] := by simp [slTo, List.range_succ]
theorem slTo_length (fs : List Fd) (vs : List Vl) (k : Nat) : (slTo fs vs k).length = k := by simp [slTo]

set_option maxRecDepth 100000 in
set_option maxHeartbeats 2000000 in
theorem slots1_in (n : Nat) (hn : 1 ≤ n) (l Bt Be n₀ bf of' bv ov cf cv : Nat) (fs : List Fd) (vs : List Vl) (m : Nat) (hm : m = min fs.length vs.length) (h5 : fs.length ≤ 5) (hBt : Bt < n₀) (hBe : Be < n₀) (hbf : bf < n₀) (hbv : bv < n₀) (J Jx : List Sl → World → Prop)
    (hdr : ∀ pre W, J pre W → J pre W.drew)
    (hY : ∀ pre x W, J pre W → pre.length < m → YieldAt Fence.wide (n - 1) Tryz.prog l (slV x) W fun e W' =>
      (e = .returned (.bool true) ∧ J (pre ++ [x]) W' ∧ Below n₀ W W') ∨ (e = .returned (.bool false) ∧ Jx (pre ++ [x]) W'))
    (W : World) (hct : W.cell? ⟨Bt, 1, none⟩ = some (.slice (some ⟨bf, of', none⟩) fs.length cf)) (hce : W.cell? ⟨Be, 2, none⟩ = some (.slice (some ⟨bv, ov, none⟩) vs.length cv))
    (hcf : ∀ j, j < fs.length → W.cell? ⟨bf, of' + j * 2, none⟩ = some (.string (fd fs j).1.1) ∧ W.cell? ⟨bf, of' + j * 2 + 1, none⟩ = some (.int .i64 (fd fs j).2))
    (hcv : ∀ j, j < vs.length → W.cell? ⟨bv, ov + j * 3, none⟩ = some (.int .i64 (vl vs j).1) ∧ W.cell? ⟨bv, ov + j * 3 + 1, none⟩ = some (.int .i64 (vl vs j).2.1) ∧ W.cell? ⟨bv, ov + j * 3 + 2, none⟩ = some (.string (vl vs j).2.2.1)) (h0 : J [] W) :
    CallsIn Fence.wide n Tryz.prog 69 #[.func (.yield l) #[] #[], .pointer (some ⟨Bt, 0, none⟩), .pointer (some ⟨Be, 0, none⟩)] W fun e W' => (∃ v, e = .returned v) ∧
      (J (slTo fs vs m) W' ∨ (∃ k, k ≤ m ∧ Jx (slTo fs vs k) W')) := by
  have hM : (fs.length ≤ vs.length ∧ Hid (m = fs.length)) ∨ (vs.length < fs.length ∧ Hid (m = vs.length)) := by
    rcases Nat.lt_or_ge vs.length fs.length with h | h
    · exact .inr ⟨h, hide (by omega)⟩
    · exact .inl ⟨h, hide (by omega)⟩
  have hmf : m ≤ fs.length := by omega
  have hmv : m ≤ vs.length := by omega
  clear hm
  refine callsIn_of_wp Tryz.func69 rfl trivial ?_ rfl
  simp only [Tryz.ntmps69, List.size_toArray, List.length_cons, List.length_nil, Nat.reduceAdd, Nat.reduceSub, Array.replicate_succ, Array.replicate_zero, List.push_toArray, List.append_toArray, List.nil_append, List.cons_append]
  rcases hM with ⟨hle, hM⟩ | ⟨hle, hM⟩
  all_goals
    gi_wp2
    rw [← unhide hM]
    clear hM hle
    gi_loopw [12] (fun i wr => ∃ k : Nat, k ≤ m ∧ i = .int .i64 k ∧ J (slTo fs vs k) wr ∧ Below n₀ W wr) (fun i _ => m - (intOf i).toNat)
    case atStart => exact ⟨0, Nat.zero_le _, rfl, h0, Below.refl _ _⟩
    case round =>
      obtain ⟨k, hk, rfl, hJs, hnx⟩ := hrel
      by_cases hlt : k < m
      · have ht1 : wr.cell? ⟨Bt, 1, none⟩ = some (.slice (some ⟨bf, of', none⟩) fs.length cf) := (hnx.cell (p := ⟨Bt, 1, none⟩) hBt).trans hct
        have he2 : wr.cell? ⟨Be, 2, none⟩ = some (.slice (some ⟨bv, ov, none⟩) vs.length cv) := (hnx.cell (p := ⟨Be, 2, none⟩) hBe).trans hce
        have hf1 : wr.cell? ⟨bf, of' + k * 2, none⟩ = some (.string (fd fs k).1.1) := (hnx.cell (p := ⟨bf, of' + k * 2, none⟩) hbf).trans (hcf k (by omega)).1
        have hf2 : wr.cell? ⟨bf, of' + k * 2 + 1, none⟩ = some (.int .i64 (fd fs k).2) := (hnx.cell (p := ⟨bf, of' + k * 2 + 1, none⟩) hbf).trans (hcf k (by omega)).2
        have hv1 : wr.cell? ⟨bv, ov + k * 3, none⟩ = some (.int .i64 (vl vs k).1) := (hnx.cell (p := ⟨bv, ov + k * 3, none⟩) hbv).trans (hcv k (by omega)).1
        have hv2 : wr.cell? ⟨bv, ov + k * 3 + 1, none⟩ = some (.int .i64 (vl vs k).2.1) := (hnx.cell (p := ⟨bv, ov + k * 3 + 1, none⟩) hbv).trans (hcv k (by omega)).2.1
        have hv3 : wr.cell? ⟨bv, ov + k * 3 + 2, none⟩ = some (.string (vl vs k).2.2.1) := (hnx.cell (p := ⟨bv, ov + k * 3 + 2, none⟩) hbv).trans (hcv k (by omega)).2.2
        have hmx : Tryz.prog.follows .mixedOrders = true := by kernel_rfl
        obtain ⟨fn, tmps, assign, body, hy, hR⟩ := (hY _ (fd fs k, vl vs k) wr.drew (hdr _ _ hJs) (by rw [slTo_length]; omega)).mono
          (R' := fun e W' => ∃ bb : Bool, e = .returned (.bool bb) ∧ Hid ((bb = true ∧ J (slTo fs vs k ++ [(fd fs k, vl vs k)]) W' ∧ Below n₀ wr.drew W') ∨ (bb = false ∧ Jx (slTo fs vs k ++ [(fd fs k, vl vs k)]) W')))
          (fun e W' h => by
            rcases h with ⟨rfl, h⟩ | ⟨rfl, h⟩
            · exact ⟨true, rfl, .inl ⟨rfl, h⟩⟩
            · exact ⟨false, rfl, .inr ⟨rfl, h⟩⟩)
        dsimp only [slV] at hy
        have hk2 : (0 : Int) ≤ k := by omega
        have hk3 : (k : Int) < fs.length := by omega
        have hk4 : (k : Int) < vs.length := by omega
        gi_wp2
        gi_region_with_o (refine hR.mono ?_; rintro e W3 ⟨bb, rfl, hbb⟩)
        all_goals
          rcases unhide hbb with ⟨rfl, hJ3, hk3⟩ | ⟨rfl, hJx3⟩
          · clear hbb hR hy
            gi_wp2
            go_roundw
            case rel => exact ⟨k + 1, by omega, by go_num, by rw [slTo_succ]; exact hJ3, hnx.drew.trans hk3⟩
            case measure => simp [intOf]; omega
          · clear hbb hR hy
            gi_wp2
            refine bodyPost_ret (results_none rfl _ _ _) rfl ?_
            exact ⟨⟨_, rfl⟩, .inr ⟨k + 1, by omega, by rw [slTo_succ]; exact hJx3⟩⟩
      · have hke : k = m := by omega
        have H := hide hke
        clear hke
        gi_wp2
        go_end0
        exact ⟨⟨_, rfl⟩, .inl (by rw [← unhide H]; exact hJs)⟩

end Go.Proofs.YtcjpaldijngnpaaGreat
