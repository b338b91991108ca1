/-
  What a range over slots meets: for every type of at most 5 fields and event of at most 20 values, in whatever world.
-/
import Derived.Test.YtcjpaldijngnpaaGreatSlots
namespace Go.Proofs.YtcjpaldijngnpaaGreat
open Go.RowKit Go.Shelf

attribute [local go_sem] Oper.semAt_some

set_option maxRecDepth 100000 in
set_option maxHeartbeats 1000000 in
theorem slots1_nil_in (n : Nat) (l Bt Be : Nat) (a a' : Option Addr) (nf nv cf cv : Nat) (h : nf = 0 ∨ nv = 0) (J : List Sl → World → Prop) (W : World)
    (hct : W.cell? ⟨Bt, 1, none⟩ = some (.slice a nf cf)) (hce : W.cell? ⟨Be, 2, none⟩ = some (.slice a' nv cv)) (h0 : J [] W) :
    CallsIn Fence.wide n Tryz.prog 69 #[.func (.yield l) #[] #[], .pointer (some ⟨Bt, 0, none⟩), .pointer (some ⟨Be, 0, none⟩)] W fun e W' => (∃ v, e = .returned v) ∧ J [] W' := by
  refine callsIn_of_wp Tryz.func69 rfl trivial ?_ rfl
  simp only [Tryz.ntmps69, List.size_toArray, List.length_cons, List.length_nil, Nat.reduceAdd, Nat.reduceSub, Array.replicate_succ, Array.replicate_zero, List.push_toArray, List.append_toArray, List.nil_append, List.cons_append]
  have hc : nf = 0 ∨ (nv = 0 ∧ 0 < nf) := by omega
  clear h
  rcases hc with rfl | ⟨rfl, hp⟩
  · gi_wp2
    gi_loopw [12] (fun i wr => i = .int .i64 0 ∧ J [] wr) (fun _ _ => 0)
    case atStart => exact ⟨rfl, h0⟩
    case round =>
      obtain ⟨rfl, hJs⟩ := hrel
      gi_wp2
      go_end0
      exact ⟨⟨_, rfl⟩, hJs⟩
  · gi_wp2
    gi_loopw [12] (fun i wr => i = .int .i64 0 ∧ J [] wr) (fun _ _ => 0)
    case atStart => exact ⟨rfl, h0⟩
    case round =>
      obtain ⟨rfl, hJs⟩ := hrel
      gi_wp2
      go_end0
      exact ⟨⟨_, rfl⟩, hJs⟩

set_option maxHeartbeats 1000000 in
theorem slots_in (n : Nat) (nm t : ByteArray) (ts : Int) (af a : Option Addr) (nf cf nv cv : Nat) (w : World) :
    CallsIn Fence.wide n Tryz.prog 45 #[.agg #[.string nm, .slice af nf cf], .agg #[.string t, .int .i64 ts, .slice a nv cv]] w fun e w' => e = .returned (.func (.func 69) #[] #[.pointer (some ⟨w.heap.size, 0, none⟩), .pointer (some ⟨w.heap.size + 1, 0, none⟩)]) ∧ w' = (w.alloc (.cells #[.string nm, .slice af nf cf] 30)).alloc (.cells #[.string t, .int .i64 ts, .slice a nv cv] 51) := by
  refine callsIn_of_wp Tryz.func45 rfl trivial ?_ rfl
  simp only [Tryz.ntmps45, List.size_toArray, List.length_cons, List.length_nil, Nat.reduceAdd, Nat.reduceSub, Array.replicate_succ, Array.replicate_zero, List.push_toArray, List.append_toArray, List.nil_append, List.cons_append]
  gi_wp2
  go_ret
  exact ⟨rfl, rfl⟩

theorem slots_stops (n : Nat) (hn : 1 ≤ n) (Bt Be n₀ : Nat) (af a : Option Addr) (cf cv : Nat) (fs : List Fd) (vs : List Vl) (h5 : fs.length ≤ 5) (h20 : vs.length ≤ 20) (w : World) (hBt : Bt < n₀) (hBe : Be < n₀) (hn₀ : n₀ ≤ w.heap.size)
    (hct : w.cell? ⟨Bt, 1, none⟩ = some (.slice af fs.length cf)) (hce : w.cell? ⟨Be, 2, none⟩ = some (.slice a vs.length cv)) (hF : Flds n₀ w af fs) (hV : Vals n₀ w a vs) :
    SeqStopsK Fence.wide n Tryz.prog 69 #[.pointer (some ⟨Bt, 0, none⟩), .pointer (some ⟨Be, 0, none⟩)] slV (Below n₀) (fun ys => ys = slTo fs vs (min fs.length vs.length))
      (fun pre => ∃ k, k ≤ min fs.length vs.length ∧ pre = slTo fs vs k) (min fs.length vs.length) w := fun l J Jx W hW hJ _ hY h0 => by
  have hct' := (hW.cell (p := ⟨Bt, 1, none⟩) (Nat.lt_of_lt_of_le hBt hn₀)).trans hct
  have hce' := (hW.cell (p := ⟨Be, 2, none⟩) (Nat.lt_of_lt_of_le hBe hn₀)).trans hce
  by_cases hz : fs.length = 0 ∨ vs.length = 0
  · have hm : min fs.length vs.length = 0 := by omega
    refine (slots1_nil_in n l Bt Be af a _ _ cf cv hz J W hct' hce' h0).mono fun e W' ⟨he, hj⟩ => ⟨he, .inl ⟨_, rfl, ?_⟩⟩
    rw [hm]
    exact hj
  · rcases hF.below (hW.mono hn₀) with rfl | ⟨bf, of', rfl, hbf, hcf⟩
    · simp at hz
    rcases hV.below (hW.mono hn₀) with rfl | ⟨bv, ov, rfl, hbv, hcv⟩
    · simp at hz
    refine (slots1_in n hn l Bt Be n₀ bf of' bv ov cf cv fs vs _ rfl h5 hBt hBe hbf hbv J Jx (drew_of_abides hJ) hY W hct' hce' hcf hcv h0).mono ?_
    rintro e W' ⟨he, hj | ⟨k, hk, hj⟩⟩
    · exact ⟨he, .inl ⟨_, rfl, hj⟩⟩
    · exact ⟨he, .inr ⟨_, ⟨k, hk, rfl⟩, hj⟩⟩

end Go.Proofs.YtcjpaldijngnpaaGreat
