/-
  CheckBy's walk.
-/
import Derived.Test.YtllpigbmkhanjaaKnB
namespace Go.Proofs.Ytllpigbmkhanjaa
open Go.RowKit Go.Shelf

attribute [local go_sem] Oper.semAt_some

theorem ems_two {W : World} {B : Nat} (e f : Em) (p q : Pl) (hb : Box W B 41 (e.cs p ++ f.cs q)) (h : EmIn W.heap.size W e p) (k : EmIn W.heap.size W f q) : Ems W.heap.size W (some ⟨B, 0, none⟩) [e, f] := by
  refine ⟨by simp, .inr ⟨B, 0, fun j => if j = 0 then p else q, rfl, hb.lt, fun j x hx => ?_⟩⟩
  match j, hx with
  | 0, hx =>
    simp at hx; subst hx
    refine ⟨fun i u hu => ?_, h⟩
    have hi : i < 11 := (Array.getElem?_eq_some_iff.1 hu).1
    have := hb.at (0 + 0 * 11 + i) (v := u) (by rw [Array.getElem?_append_left (by simp; omega)]; simpa using hu)
    exact this
  | 1, hx =>
    simp at hx; subst hx
    refine ⟨fun i u hu => ?_, k⟩
    have := hb.at (0 + 1 * 11 + i) (v := u) (by rw [Array.getElem?_append_right (by simp)]; simpa using hu)
    exact this
  | j + 2, hx => simp at hx
theorem errIs_no (n m : Int) (h : (n == m) = false) (w : World) : Calls Try.prog 11 #[errV n, errV m] w fun e w' => e = .returned (.bool false) ∧ w' = w := by
  have := errIs_c n m w
  rwa [h] at this

theorem by_ix0 (W : World) : (Instr.index 52 (.agg #[.string ⟨#[110]⟩, .string ⟨#[115]⟩, .string ⟨#[98]⟩, .string ⟨#[122]⟩]) (.int .u8 0)).run Try.prog W = .ok (.string ⟨#[110]⟩) W := by kernel_rfl
theorem by_ix1 (W : World) : (Instr.index 52 (.agg #[.string ⟨#[110]⟩, .string ⟨#[115]⟩, .string ⟨#[98]⟩, .string ⟨#[122]⟩]) (.int .u8 1)).run Try.prog W = .ok (.string ⟨#[115]⟩) W := by kernel_rfl
theorem by_ix2 (W : World) : (Instr.index 52 (.agg #[.string ⟨#[110]⟩, .string ⟨#[115]⟩, .string ⟨#[98]⟩, .string ⟨#[122]⟩]) (.int .u8 2)).run Try.prog W = .ok (.string ⟨#[98]⟩) W := by kernel_rfl
theorem by_ix3 (W : World) : (Instr.index 52 (.agg #[.string ⟨#[110]⟩, .string ⟨#[115]⟩, .string ⟨#[98]⟩, .string ⟨#[122]⟩]) (.int .u8 3)).run Try.prog W = .ok (.string ⟨#[122]⟩) W := by kernel_rfl
theorem by_iy0 (S : Nat) (W : World) : (Instr.index 53 (.agg #[.slice (some ⟨S, 0, none⟩) 1 1, .slice (some ⟨S + 1, 0, none⟩) 1 1, .slice (some ⟨S + 1 + 1, 0, none⟩) 2 2]) (.int .u8 0)).run Try.prog W = .ok (.slice (some ⟨S, 0, none⟩) 1 1) W := by kernel_rfl
theorem by_iy1 (S : Nat) (W : World) : (Instr.index 53 (.agg #[.slice (some ⟨S, 0, none⟩) 1 1, .slice (some ⟨S + 1, 0, none⟩) 1 1, .slice (some ⟨S + 1 + 1, 0, none⟩) 2 2]) (.int .u8 1)).run Try.prog W = .ok (.slice (some ⟨S + 1, 0, none⟩) 1 1) W := by kernel_rfl
theorem by_iy2 (S : Nat) (W : World) : (Instr.index 53 (.agg #[.slice (some ⟨S, 0, none⟩) 1 1, .slice (some ⟨S + 1, 0, none⟩) 1 1, .slice (some ⟨S + 1 + 1, 0, none⟩) 2 2]) (.int .u8 2)).run Try.prog W = .ok (.slice (some ⟨S + 1 + 1, 0, none⟩) 2 2) W := by kernel_rfl
theorem by_k00 : chkP baseT ⟨[⟨tk [97], [tk [116]], false, false, e0⟩, ⟨tk [99], [tk [116]], false, false, e0⟩], 0, tk [110], false⟩ = 0 := by decide +kernel
set_option maxRecDepth 100000 in
set_option maxHeartbeats 4000000 in
theorem by5_00 (n0 n1 : Int) (h0 : 0 ≤ n0) (h1 : n0 ≤ 255) (h2 : 0 ≤ n1) (h3 : n1 ≤ 255) (hm : n0 % 4 = 0) (hq : n1 % 3 = 0) (w : World) : Calls Try.prog 5 #[.int .u8 n0, .int .u8 n1] w fun e w' => e = .returned (.bool true) ∧ Below w.heap.size w w' := by
  have cK := hide (known6_c w)
  go_enter Try.func5, Try.ntmps5
  go_wp2_with fail
  refine (unhide cK).mono ?_
  rintro r w1 ⟨rfl, hb1⟩
  clear cK
  obtain ⟨S, hS⟩ : ∃ S, S = w1.heap.size := ⟨_, rfl⟩
  obtain ⟨V4, hV4⟩ : ∃ V4, V4 = (((w1.alloc (.cells #[.string ⟨#[116]⟩] 9)).alloc (.cells #[.string ⟨#[117]⟩] 9)).alloc (.cells #[.string ⟨#[116]⟩, .string ⟨#[117]⟩] 9)).alloc (.cells #[.string ⟨#[116]⟩] 9) := ⟨_, rfl⟩
  have bV4 : Below w1.heap.size w1 V4 := by rw [hV4]; exact ((((Below.refl _ _).alloc (Nat.le_refl _) _).alloc (by simp) _).alloc (by simp; omega) _).alloc (by simp; omega) _
  have sV4 : V4.heap.size = S + 1 + 1 + 1 + 1 := by rw [hV4, hS]; simp
  have t0 : Box V4 S 9 #[.string (tk [116]).1] := by rw [hV4, hS]; exact ((Box.new _ _ _).alloc _ |>.alloc _).alloc _
  have t1 : Box V4 (S + 1) 9 #[.string (tk [117]).1] := by
    have := Box.new (w1.alloc (.cells #[.string ⟨#[116]⟩] 9)) 9 #[.string ⟨#[117]⟩]
    simp only [World.size_alloc] at this
    rw [hV4, hS]; exact (this.alloc _).alloc _
  have t2 : Box V4 (S + 1 + 1) 9 #[.string (tk [116]).1, .string (tk [117]).1] := by
    have := Box.new ((w1.alloc (.cells #[.string ⟨#[116]⟩] 9)).alloc (.cells #[.string ⟨#[117]⟩] 9)) 9 #[.string ⟨#[116]⟩, .string ⟨#[117]⟩]
    simp only [World.size_alloc] at this
    rw [hV4, hS]; exact this.alloc _
  have t3 : Box V4 (S + 1 + 1 + 1) 9 #[.string (tk [116]).1] := by
    have := Box.new (((w1.alloc (.cells #[.string ⟨#[116]⟩] 9)).alloc (.cells #[.string ⟨#[117]⟩] 9)).alloc (.cells #[.string ⟨#[116]⟩, .string ⟨#[117]⟩] 9)) 9 #[.string ⟨#[116]⟩]
    simp only [World.size_alloc] at this
    rw [hV4, hS]; exact this
  obtain ⟨W2, hW2⟩ : ∃ W2, W2 = (V4.alloc (.cells (Em.cs ⟨tk [97], [tk [116]], false, false, e0⟩ ⟨some ⟨S, 0, none⟩, 1, none, 0⟩ ++ Em.cs ⟨tk [99], [tk [116]], false, false, e0⟩ ⟨some ⟨S + 1 + 1 + 1, 0, none⟩, 1, none, 0⟩) 41)).alloc (.cells (Pt.cs ⟨[⟨tk [97], [tk [116]], false, false, e0⟩, ⟨tk [99], [tk [116]], false, false, e0⟩], 0, tk [110], false⟩ (some ⟨S + 1 + 1 + 1 + 1, 0, none⟩) 2) 48) := ⟨_, rfl⟩
  have bW2 : Below V4.heap.size V4 W2 := by rw [hW2]; exact ((Below.refl _ _).alloc (Nat.le_refl _) _).alloc (by simp) _
  have eW2 : Box W2 (S + 1 + 1 + 1 + 1) 41 (Em.cs ⟨tk [97], [tk [116]], false, false, e0⟩ ⟨some ⟨S, 0, none⟩, 1, none, 0⟩ ++ Em.cs ⟨tk [99], [tk [116]], false, false, e0⟩ ⟨some ⟨S + 1 + 1 + 1, 0, none⟩, 1, none, 0⟩) := by rw [hW2, ← sV4]; exact (Box.new _ _ _).alloc _
  have pW2 : Box W2 (S + 1 + 1 + 1 + 1 + 1) 48 (Pt.cs ⟨[⟨tk [97], [tk [116]], false, false, e0⟩, ⟨tk [99], [tk [116]], false, false, e0⟩], 0, tk [110], false⟩ (some ⟨S + 1 + 1 + 1 + 1, 0, none⟩) 2) := by
    have := Box.new (V4.alloc (.cells (Em.cs ⟨tk [97], [tk [116]], false, false, e0⟩ ⟨some ⟨S, 0, none⟩, 1, none, 0⟩ ++ Em.cs ⟨tk [99], [tk [116]], false, false, e0⟩ ⟨some ⟨S + 1 + 1 + 1, 0, none⟩, 1, none, 0⟩) 41)) 48 (Pt.cs ⟨[⟨tk [97], [tk [116]], false, false, e0⟩, ⟨tk [99], [tk [116]], false, false, e0⟩], 0, tk [110], false⟩ (some ⟨S + 1 + 1 + 1 + 1, 0, none⟩) 2)
    rw [World.size_alloc, sV4] at this
    rw [hW2]; exact this
  have mW2 := ems_two _ _ _ _ eW2 ⟨txts_one _ (t0.on bW2 (by omega)), .nil _⟩ ⟨txts_one _ (t3.on bW2 (by omega)), .nil _⟩
  have bb := hb1.trans ((bV4.trans (bW2.mono bV4.size)).mono hb1.size)
  clear eW2 t0 t1 t2 t3
  have hx := by_ix0
  have hy := by_iy0 w1.heap.size
  have hmx : Try.prog.follows .mixedOrders = true := by kernel_rfl
  go_upto_region 6 with fail
  rw [← hS, show ((((((w1.alloc (.cells #[.string ⟨#[116]⟩] 9)).alloc (.cells #[.string ⟨#[117]⟩] 9)).alloc (.cells #[.string ⟨#[116]⟩, .string ⟨#[117]⟩] 9)).alloc (.cells #[.string ⟨#[116]⟩] 9)).alloc (.cells #[.string ⟨#[97]⟩, .slice (some ⟨S, 0, none⟩) 1 1, .bool false, .bool false, .int .i64 0, .int .i64 0, .int .i64 0, .string ⟨#[]⟩, .string ⟨#[]⟩, .string ⟨#[]⟩, .slice none 0 0, .string ⟨#[99]⟩, .slice (some ⟨S + 1 + 1 + 1, 0, none⟩) 1 1, .bool false, .bool false, .int .i64 0, .int .i64 0, .int .i64 0, .string ⟨#[]⟩, .string ⟨#[]⟩, .string ⟨#[]⟩, .slice none 0 0] 41)).alloc (.cells #[.slice (some ⟨S + 1 + 1 + 1 + 1, 0, none⟩) 2 2, .int .i64 0, .string ⟨#[110]⟩, .bool false] 48)) = W2 from by rw [hW2, hV4]; rfl]
  obtain ⟨D0, hD0⟩ : ∃ D0, D0 = W2.drew := ⟨_, rfl⟩
  have bD : Below W2.heap.size W2 D0 := by rw [hD0]; exact (Below.refl _ _).drew
  have cD : Box D0 (S + 1 + 1 + 1 + 1 + 1) 48 (Pt.cs ⟨[⟨tk [97], [tk [116]], false, false, e0⟩, ⟨tk [99], [tk [116]], false, false, e0⟩], 0, tk [110], false⟩ (some ⟨S + 1 + 1 + 1 + 1, 0, none⟩) 2) := pW2.on bD pW2.lt
  have mP := hide (mW2.on bD)
  have hb := hide (bb.trans (bD.mono bb.size))
  refine wp_region_any hmx (wpAny_of_C (C := fun w' => Box w' (S + 1 + 1 + 1 + 1 + 1) 48 (Pt.cs ⟨[⟨tk [97], [tk [116]], false, false, e0⟩, ⟨tk [99], [tk [116]], false, false, e0⟩], 0, tk [110], false⟩ (some ⟨S + 1 + 1 + 1 + 1, 0, none⟩) 2)) _ _ _ _ ?_)
  rw [show ({ heap := W2.heap, tape := W2.tape, drawn := W2.drawn + 1, os := W2.os, output := W2.output } : World) = D0 from hD0.symm]
  clear hD0 bD pW2 mW2 bb hW2 hV4 bV4 bW2 sV4 hb1 hx hy
  replace hS := hide hS
  refine wpAnyC_reads 1 cD (by kernel_rfl) (by kernel_rfl) (by kernel_rfl) (fun d _ _ _ _ h => by cases d <;> exact h) (fun oi ho K hK => ?_)
  simp only [List.getElem?_toArray, List.getElem?_cons_succ, List.getElem?_cons_zero, Option.some.injEq] at ho
  subst ho
  rw [if_pos (by kernel_rfl)]
  refine ⟨Pt.v ⟨[⟨tk [97], [tk [116]], false, false, e0⟩, ⟨tk [99], [tk [116]], false, false, e0⟩], 0, tk [110], false⟩ (some ⟨S + 1 + 1 + 1 + 1, 0, none⟩) 2, fun w' hw' => ?_, hK _ ?_⟩
  · obtain ⟨h50, h51, h52, h53⟩ := Box.four hw'
    go_simp
  clear hK K
  have cB := hide (base_c D0)
  refine wpAnyC_calls 0 (by kernel_rfl) (fun oi ho K hK => ?_)
  simp only [List.getElem?_toArray, List.getElem?_cons_zero, Option.some.injEq] at ho
  subst ho
  go_simp
  refine (unhide cB).mono ?_
  rintro r U ⟨a, rfl, sU, bU⟩
  have cD := cD.on bU cD.lt
  replace hb := hide ((unhide hb).trans (bU.mono (unhide hb).size))
  have mP := hide ((unhide mP).on bU)
  have cP := hide (pattern12_c a 2 baseT ⟨[⟨tk [97], [tk [116]], false, false, e0⟩, ⟨tk [99], [tk [116]], false, false, e0⟩], 0, tk [110], false⟩ (some ⟨S + 1 + 1 + 1 + 1, 0, none⟩) 2 (by decide) U sU (unhide mP))
  rw [by_k00, show errO 0 = .nilIface from rfl] at cP
  clear sU bU cB
  go_simp
  refine hK _ _ cD ?_
  clear hK K
  refine wpAnyC_calls 2 (by kernel_rfl) (fun oi ho K hK => ?_)
  simp only [List.getElem?_toArray, List.getElem?_cons_succ, List.getElem?_cons_zero, Option.some.injEq] at ho
  subst ho
  go_simp
  refine (unhide cP).mono ?_
  rintro r G ⟨rfl, bG⟩
  have cD := cD.on bG cD.lt
  replace hb := hide ((unhide hb).trans (bG.mono (unhide hb).size))
  clear bG cP mP
  go_simp
  refine hK _ _ cD ?_
  clear hK K
  refine wpAnyC_reads 3 cD (by kernel_rfl) (by kernel_rfl) (by kernel_rfl) (fun d _ _ _ _ h => by cases d <;> exact h) (fun oi ho K hK => ?_)
  simp only [List.getElem?_toArray, List.getElem?_cons_succ, List.getElem?_cons_zero, Option.some.injEq] at ho
  subst ho
  rw [if_pos (by kernel_rfl)]
  refine ⟨.nilIface, fun w' hw' => ?_, hK _ ?_⟩
  · clear hw'
    go_simp
  clear hK K
  refine wpAnyC_done (by kernel_rfl) ?_ _
  go_wp2_with fail
  go_ret
  exact ⟨rfl, unhide hb⟩
theorem by_k01 : chkP baseT ⟨[⟨tk [97], [tk [117]], false, false, e0⟩, ⟨tk [99], [tk [116]], false, false, e0⟩], 0, tk [110], false⟩ = 0 := by decide +kernel
set_option maxRecDepth 100000 in
set_option maxHeartbeats 4000000 in
theorem by5_01 (n0 n1 : Int) (h0 : 0 ≤ n0) (h1 : n0 ≤ 255) (h2 : 0 ≤ n1) (h3 : n1 ≤ 255) (hm : n0 % 4 = 0) (hq : n1 % 3 = 1) (w : World) : Calls Try.prog 5 #[.int .u8 n0, .int .u8 n1] w fun e w' => e = .returned (.bool true) ∧ Below w.heap.size w w' := by
  have cK := hide (known6_c w)
  go_enter Try.func5, Try.ntmps5
  go_wp2_with fail
  refine (unhide cK).mono ?_
  rintro r w1 ⟨rfl, hb1⟩
  clear cK
  obtain ⟨S, hS⟩ : ∃ S, S = w1.heap.size := ⟨_, rfl⟩
  obtain ⟨V4, hV4⟩ : ∃ V4, V4 = (((w1.alloc (.cells #[.string ⟨#[116]⟩] 9)).alloc (.cells #[.string ⟨#[117]⟩] 9)).alloc (.cells #[.string ⟨#[116]⟩, .string ⟨#[117]⟩] 9)).alloc (.cells #[.string ⟨#[116]⟩] 9) := ⟨_, rfl⟩
  have bV4 : Below w1.heap.size w1 V4 := by rw [hV4]; exact ((((Below.refl _ _).alloc (Nat.le_refl _) _).alloc (by simp) _).alloc (by simp; omega) _).alloc (by simp; omega) _
  have sV4 : V4.heap.size = S + 1 + 1 + 1 + 1 := by rw [hV4, hS]; simp
  have t0 : Box V4 S 9 #[.string (tk [116]).1] := by rw [hV4, hS]; exact ((Box.new _ _ _).alloc _ |>.alloc _).alloc _
  have t1 : Box V4 (S + 1) 9 #[.string (tk [117]).1] := by
    have := Box.new (w1.alloc (.cells #[.string ⟨#[116]⟩] 9)) 9 #[.string ⟨#[117]⟩]
    simp only [World.size_alloc] at this
    rw [hV4, hS]; exact (this.alloc _).alloc _
  have t2 : Box V4 (S + 1 + 1) 9 #[.string (tk [116]).1, .string (tk [117]).1] := by
    have := Box.new ((w1.alloc (.cells #[.string ⟨#[116]⟩] 9)).alloc (.cells #[.string ⟨#[117]⟩] 9)) 9 #[.string ⟨#[116]⟩, .string ⟨#[117]⟩]
    simp only [World.size_alloc] at this
    rw [hV4, hS]; exact this.alloc _
  have t3 : Box V4 (S + 1 + 1 + 1) 9 #[.string (tk [116]).1] := by
    have := Box.new (((w1.alloc (.cells #[.string ⟨#[116]⟩] 9)).alloc (.cells #[.string ⟨#[117]⟩] 9)).alloc (.cells #[.string ⟨#[116]⟩, .string ⟨#[117]⟩] 9)) 9 #[.string ⟨#[116]⟩]
    simp only [World.size_alloc] at this
    rw [hV4, hS]; exact this
  obtain ⟨W2, hW2⟩ : ∃ W2, W2 = (V4.alloc (.cells (Em.cs ⟨tk [97], [tk [117]], false, false, e0⟩ ⟨some ⟨S + 1, 0, none⟩, 1, none, 0⟩ ++ Em.cs ⟨tk [99], [tk [116]], false, false, e0⟩ ⟨some ⟨S + 1 + 1 + 1, 0, none⟩, 1, none, 0⟩) 41)).alloc (.cells (Pt.cs ⟨[⟨tk [97], [tk [117]], false, false, e0⟩, ⟨tk [99], [tk [116]], false, false, e0⟩], 0, tk [110], false⟩ (some ⟨S + 1 + 1 + 1 + 1, 0, none⟩) 2) 48) := ⟨_, rfl⟩
  have bW2 : Below V4.heap.size V4 W2 := by rw [hW2]; exact ((Below.refl _ _).alloc (Nat.le_refl _) _).alloc (by simp) _
  have eW2 : Box W2 (S + 1 + 1 + 1 + 1) 41 (Em.cs ⟨tk [97], [tk [117]], false, false, e0⟩ ⟨some ⟨S + 1, 0, none⟩, 1, none, 0⟩ ++ Em.cs ⟨tk [99], [tk [116]], false, false, e0⟩ ⟨some ⟨S + 1 + 1 + 1, 0, none⟩, 1, none, 0⟩) := by rw [hW2, ← sV4]; exact (Box.new _ _ _).alloc _
  have pW2 : Box W2 (S + 1 + 1 + 1 + 1 + 1) 48 (Pt.cs ⟨[⟨tk [97], [tk [117]], false, false, e0⟩, ⟨tk [99], [tk [116]], false, false, e0⟩], 0, tk [110], false⟩ (some ⟨S + 1 + 1 + 1 + 1, 0, none⟩) 2) := by
    have := Box.new (V4.alloc (.cells (Em.cs ⟨tk [97], [tk [117]], false, false, e0⟩ ⟨some ⟨S + 1, 0, none⟩, 1, none, 0⟩ ++ Em.cs ⟨tk [99], [tk [116]], false, false, e0⟩ ⟨some ⟨S + 1 + 1 + 1, 0, none⟩, 1, none, 0⟩) 41)) 48 (Pt.cs ⟨[⟨tk [97], [tk [117]], false, false, e0⟩, ⟨tk [99], [tk [116]], false, false, e0⟩], 0, tk [110], false⟩ (some ⟨S + 1 + 1 + 1 + 1, 0, none⟩) 2)
    rw [World.size_alloc, sV4] at this
    rw [hW2]; exact this
  have mW2 := ems_two _ _ _ _ eW2 ⟨txts_one _ (t1.on bW2 (by omega)), .nil _⟩ ⟨txts_one _ (t3.on bW2 (by omega)), .nil _⟩
  have bb := hb1.trans ((bV4.trans (bW2.mono bV4.size)).mono hb1.size)
  clear eW2 t0 t1 t2 t3
  have hx := by_ix0
  have hy := by_iy1 w1.heap.size
  have hmx : Try.prog.follows .mixedOrders = true := by kernel_rfl
  go_upto_region 6 with fail
  rw [← hS, show ((((((w1.alloc (.cells #[.string ⟨#[116]⟩] 9)).alloc (.cells #[.string ⟨#[117]⟩] 9)).alloc (.cells #[.string ⟨#[116]⟩, .string ⟨#[117]⟩] 9)).alloc (.cells #[.string ⟨#[116]⟩] 9)).alloc (.cells #[.string ⟨#[97]⟩, .slice (some ⟨S + 1, 0, none⟩) 1 1, .bool false, .bool false, .int .i64 0, .int .i64 0, .int .i64 0, .string ⟨#[]⟩, .string ⟨#[]⟩, .string ⟨#[]⟩, .slice none 0 0, .string ⟨#[99]⟩, .slice (some ⟨S + 1 + 1 + 1, 0, none⟩) 1 1, .bool false, .bool false, .int .i64 0, .int .i64 0, .int .i64 0, .string ⟨#[]⟩, .string ⟨#[]⟩, .string ⟨#[]⟩, .slice none 0 0] 41)).alloc (.cells #[.slice (some ⟨S + 1 + 1 + 1 + 1, 0, none⟩) 2 2, .int .i64 0, .string ⟨#[110]⟩, .bool false] 48)) = W2 from by rw [hW2, hV4]; rfl]
  obtain ⟨D0, hD0⟩ : ∃ D0, D0 = W2.drew := ⟨_, rfl⟩
  have bD : Below W2.heap.size W2 D0 := by rw [hD0]; exact (Below.refl _ _).drew
  have cD : Box D0 (S + 1 + 1 + 1 + 1 + 1) 48 (Pt.cs ⟨[⟨tk [97], [tk [117]], false, false, e0⟩, ⟨tk [99], [tk [116]], false, false, e0⟩], 0, tk [110], false⟩ (some ⟨S + 1 + 1 + 1 + 1, 0, none⟩) 2) := pW2.on bD pW2.lt
  have mP := hide (mW2.on bD)
  have hb := hide (bb.trans (bD.mono bb.size))
  refine wp_region_any hmx (wpAny_of_C (C := fun w' => Box w' (S + 1 + 1 + 1 + 1 + 1) 48 (Pt.cs ⟨[⟨tk [97], [tk [117]], false, false, e0⟩, ⟨tk [99], [tk [116]], false, false, e0⟩], 0, tk [110], false⟩ (some ⟨S + 1 + 1 + 1 + 1, 0, none⟩) 2)) _ _ _ _ ?_)
  rw [show ({ heap := W2.heap, tape := W2.tape, drawn := W2.drawn + 1, os := W2.os, output := W2.output } : World) = D0 from hD0.symm]
  clear hD0 bD pW2 mW2 bb hW2 hV4 bV4 bW2 sV4 hb1 hx hy
  replace hS := hide hS
  refine wpAnyC_reads 1 cD (by kernel_rfl) (by kernel_rfl) (by kernel_rfl) (fun d _ _ _ _ h => by cases d <;> exact h) (fun oi ho K hK => ?_)
  simp only [List.getElem?_toArray, List.getElem?_cons_succ, List.getElem?_cons_zero, Option.some.injEq] at ho
  subst ho
  rw [if_pos (by kernel_rfl)]
  refine ⟨Pt.v ⟨[⟨tk [97], [tk [117]], false, false, e0⟩, ⟨tk [99], [tk [116]], false, false, e0⟩], 0, tk [110], false⟩ (some ⟨S + 1 + 1 + 1 + 1, 0, none⟩) 2, fun w' hw' => ?_, hK _ ?_⟩
  · obtain ⟨h50, h51, h52, h53⟩ := Box.four hw'
    go_simp
  clear hK K
  have cB := hide (base_c D0)
  refine wpAnyC_calls 0 (by kernel_rfl) (fun oi ho K hK => ?_)
  simp only [List.getElem?_toArray, List.getElem?_cons_zero, Option.some.injEq] at ho
  subst ho
  go_simp
  refine (unhide cB).mono ?_
  rintro r U ⟨a, rfl, sU, bU⟩
  have cD := cD.on bU cD.lt
  replace hb := hide ((unhide hb).trans (bU.mono (unhide hb).size))
  have mP := hide ((unhide mP).on bU)
  have cP := hide (pattern12_c a 2 baseT ⟨[⟨tk [97], [tk [117]], false, false, e0⟩, ⟨tk [99], [tk [116]], false, false, e0⟩], 0, tk [110], false⟩ (some ⟨S + 1 + 1 + 1 + 1, 0, none⟩) 2 (by decide) U sU (unhide mP))
  rw [by_k01, show errO 0 = .nilIface from rfl] at cP
  clear sU bU cB
  go_simp
  refine hK _ _ cD ?_
  clear hK K
  refine wpAnyC_calls 2 (by kernel_rfl) (fun oi ho K hK => ?_)
  simp only [List.getElem?_toArray, List.getElem?_cons_succ, List.getElem?_cons_zero, Option.some.injEq] at ho
  subst ho
  go_simp
  refine (unhide cP).mono ?_
  rintro r G ⟨rfl, bG⟩
  have cD := cD.on bG cD.lt
  replace hb := hide ((unhide hb).trans (bG.mono (unhide hb).size))
  clear bG cP mP
  go_simp
  refine hK _ _ cD ?_
  clear hK K
  refine wpAnyC_reads 3 cD (by kernel_rfl) (by kernel_rfl) (by kernel_rfl) (fun d _ _ _ _ h => by cases d <;> exact h) (fun oi ho K hK => ?_)
  simp only [List.getElem?_toArray, List.getElem?_cons_succ, List.getElem?_cons_zero, Option.some.injEq] at ho
  subst ho
  rw [if_pos (by kernel_rfl)]
  refine ⟨.nilIface, fun w' hw' => ?_, hK _ ?_⟩
  · clear hw'
    go_simp
  clear hK K
  refine wpAnyC_done (by kernel_rfl) ?_ _
  go_wp2_with fail
  go_ret
  exact ⟨rfl, unhide hb⟩
theorem by_k02 : chkP baseT ⟨[⟨tk [97], [tk [116], tk [117]], false, false, e0⟩, ⟨tk [99], [tk [116]], false, false, e0⟩], 0, tk [110], false⟩ = 0 := by decide +kernel
set_option maxRecDepth 100000 in
set_option maxHeartbeats 4000000 in
theorem by5_02 (n0 n1 : Int) (h0 : 0 ≤ n0) (h1 : n0 ≤ 255) (h2 : 0 ≤ n1) (h3 : n1 ≤ 255) (hm : n0 % 4 = 0) (hq : n1 % 3 = 2) (w : World) : Calls Try.prog 5 #[.int .u8 n0, .int .u8 n1] w fun e w' => e = .returned (.bool true) ∧ Below w.heap.size w w' := by
  have cK := hide (known6_c w)
  go_enter Try.func5, Try.ntmps5
  go_wp2_with fail
  refine (unhide cK).mono ?_
  rintro r w1 ⟨rfl, hb1⟩
  clear cK
  obtain ⟨S, hS⟩ : ∃ S, S = w1.heap.size := ⟨_, rfl⟩
  obtain ⟨V4, hV4⟩ : ∃ V4, V4 = (((w1.alloc (.cells #[.string ⟨#[116]⟩] 9)).alloc (.cells #[.string ⟨#[117]⟩] 9)).alloc (.cells #[.string ⟨#[116]⟩, .string ⟨#[117]⟩] 9)).alloc (.cells #[.string ⟨#[116]⟩] 9) := ⟨_, rfl⟩
  have bV4 : Below w1.heap.size w1 V4 := by rw [hV4]; exact ((((Below.refl _ _).alloc (Nat.le_refl _) _).alloc (by simp) _).alloc (by simp; omega) _).alloc (by simp; omega) _
  have sV4 : V4.heap.size = S + 1 + 1 + 1 + 1 := by rw [hV4, hS]; simp
  have t0 : Box V4 S 9 #[.string (tk [116]).1] := by rw [hV4, hS]; exact ((Box.new _ _ _).alloc _ |>.alloc _).alloc _
  have t1 : Box V4 (S + 1) 9 #[.string (tk [117]).1] := by
    have := Box.new (w1.alloc (.cells #[.string ⟨#[116]⟩] 9)) 9 #[.string ⟨#[117]⟩]
    simp only [World.size_alloc] at this
    rw [hV4, hS]; exact (this.alloc _).alloc _
  have t2 : Box V4 (S + 1 + 1) 9 #[.string (tk [116]).1, .string (tk [117]).1] := by
    have := Box.new ((w1.alloc (.cells #[.string ⟨#[116]⟩] 9)).alloc (.cells #[.string ⟨#[117]⟩] 9)) 9 #[.string ⟨#[116]⟩, .string ⟨#[117]⟩]
    simp only [World.size_alloc] at this
    rw [hV4, hS]; exact this.alloc _
  have t3 : Box V4 (S + 1 + 1 + 1) 9 #[.string (tk [116]).1] := by
    have := Box.new (((w1.alloc (.cells #[.string ⟨#[116]⟩] 9)).alloc (.cells #[.string ⟨#[117]⟩] 9)).alloc (.cells #[.string ⟨#[116]⟩, .string ⟨#[117]⟩] 9)) 9 #[.string ⟨#[116]⟩]
    simp only [World.size_alloc] at this
    rw [hV4, hS]; exact this
  obtain ⟨W2, hW2⟩ : ∃ W2, W2 = (V4.alloc (.cells (Em.cs ⟨tk [97], [tk [116], tk [117]], false, false, e0⟩ ⟨some ⟨S + 1 + 1, 0, none⟩, 2, none, 0⟩ ++ Em.cs ⟨tk [99], [tk [116]], false, false, e0⟩ ⟨some ⟨S + 1 + 1 + 1, 0, none⟩, 1, none, 0⟩) 41)).alloc (.cells (Pt.cs ⟨[⟨tk [97], [tk [116], tk [117]], false, false, e0⟩, ⟨tk [99], [tk [116]], false, false, e0⟩], 0, tk [110], false⟩ (some ⟨S + 1 + 1 + 1 + 1, 0, none⟩) 2) 48) := ⟨_, rfl⟩
  have bW2 : Below V4.heap.size V4 W2 := by rw [hW2]; exact ((Below.refl _ _).alloc (Nat.le_refl _) _).alloc (by simp) _
  have eW2 : Box W2 (S + 1 + 1 + 1 + 1) 41 (Em.cs ⟨tk [97], [tk [116], tk [117]], false, false, e0⟩ ⟨some ⟨S + 1 + 1, 0, none⟩, 2, none, 0⟩ ++ Em.cs ⟨tk [99], [tk [116]], false, false, e0⟩ ⟨some ⟨S + 1 + 1 + 1, 0, none⟩, 1, none, 0⟩) := by rw [hW2, ← sV4]; exact (Box.new _ _ _).alloc _
  have pW2 : Box W2 (S + 1 + 1 + 1 + 1 + 1) 48 (Pt.cs ⟨[⟨tk [97], [tk [116], tk [117]], false, false, e0⟩, ⟨tk [99], [tk [116]], false, false, e0⟩], 0, tk [110], false⟩ (some ⟨S + 1 + 1 + 1 + 1, 0, none⟩) 2) := by
    have := Box.new (V4.alloc (.cells (Em.cs ⟨tk [97], [tk [116], tk [117]], false, false, e0⟩ ⟨some ⟨S + 1 + 1, 0, none⟩, 2, none, 0⟩ ++ Em.cs ⟨tk [99], [tk [116]], false, false, e0⟩ ⟨some ⟨S + 1 + 1 + 1, 0, none⟩, 1, none, 0⟩) 41)) 48 (Pt.cs ⟨[⟨tk [97], [tk [116], tk [117]], false, false, e0⟩, ⟨tk [99], [tk [116]], false, false, e0⟩], 0, tk [110], false⟩ (some ⟨S + 1 + 1 + 1 + 1, 0, none⟩) 2)
    rw [World.size_alloc, sV4] at this
    rw [hW2]; exact this
  have mW2 := ems_two _ _ _ _ eW2 ⟨txts_two _ _ (t2.on bW2 (by omega)), .nil _⟩ ⟨txts_one _ (t3.on bW2 (by omega)), .nil _⟩
  have bb := hb1.trans ((bV4.trans (bW2.mono bV4.size)).mono hb1.size)
  clear eW2 t0 t1 t2 t3
  have hx := by_ix0
  have hy := by_iy2 w1.heap.size
  have hmx : Try.prog.follows .mixedOrders = true := by kernel_rfl
  go_upto_region 6 with fail
  rw [← hS, show ((((((w1.alloc (.cells #[.string ⟨#[116]⟩] 9)).alloc (.cells #[.string ⟨#[117]⟩] 9)).alloc (.cells #[.string ⟨#[116]⟩, .string ⟨#[117]⟩] 9)).alloc (.cells #[.string ⟨#[116]⟩] 9)).alloc (.cells #[.string ⟨#[97]⟩, .slice (some ⟨S + 1 + 1, 0, none⟩) 2 2, .bool false, .bool false, .int .i64 0, .int .i64 0, .int .i64 0, .string ⟨#[]⟩, .string ⟨#[]⟩, .string ⟨#[]⟩, .slice none 0 0, .string ⟨#[99]⟩, .slice (some ⟨S + 1 + 1 + 1, 0, none⟩) 1 1, .bool false, .bool false, .int .i64 0, .int .i64 0, .int .i64 0, .string ⟨#[]⟩, .string ⟨#[]⟩, .string ⟨#[]⟩, .slice none 0 0] 41)).alloc (.cells #[.slice (some ⟨S + 1 + 1 + 1 + 1, 0, none⟩) 2 2, .int .i64 0, .string ⟨#[110]⟩, .bool false] 48)) = W2 from by rw [hW2, hV4]; rfl]
  obtain ⟨D0, hD0⟩ : ∃ D0, D0 = W2.drew := ⟨_, rfl⟩
  have bD : Below W2.heap.size W2 D0 := by rw [hD0]; exact (Below.refl _ _).drew
  have cD : Box D0 (S + 1 + 1 + 1 + 1 + 1) 48 (Pt.cs ⟨[⟨tk [97], [tk [116], tk [117]], false, false, e0⟩, ⟨tk [99], [tk [116]], false, false, e0⟩], 0, tk [110], false⟩ (some ⟨S + 1 + 1 + 1 + 1, 0, none⟩) 2) := pW2.on bD pW2.lt
  have mP := hide (mW2.on bD)
  have hb := hide (bb.trans (bD.mono bb.size))
  refine wp_region_any hmx (wpAny_of_C (C := fun w' => Box w' (S + 1 + 1 + 1 + 1 + 1) 48 (Pt.cs ⟨[⟨tk [97], [tk [116], tk [117]], false, false, e0⟩, ⟨tk [99], [tk [116]], false, false, e0⟩], 0, tk [110], false⟩ (some ⟨S + 1 + 1 + 1 + 1, 0, none⟩) 2)) _ _ _ _ ?_)
  rw [show ({ heap := W2.heap, tape := W2.tape, drawn := W2.drawn + 1, os := W2.os, output := W2.output } : World) = D0 from hD0.symm]
  clear hD0 bD pW2 mW2 bb hW2 hV4 bV4 bW2 sV4 hb1 hx hy
  replace hS := hide hS
  refine wpAnyC_reads 1 cD (by kernel_rfl) (by kernel_rfl) (by kernel_rfl) (fun d _ _ _ _ h => by cases d <;> exact h) (fun oi ho K hK => ?_)
  simp only [List.getElem?_toArray, List.getElem?_cons_succ, List.getElem?_cons_zero, Option.some.injEq] at ho
  subst ho
  rw [if_pos (by kernel_rfl)]
  refine ⟨Pt.v ⟨[⟨tk [97], [tk [116], tk [117]], false, false, e0⟩, ⟨tk [99], [tk [116]], false, false, e0⟩], 0, tk [110], false⟩ (some ⟨S + 1 + 1 + 1 + 1, 0, none⟩) 2, fun w' hw' => ?_, hK _ ?_⟩
  · obtain ⟨h50, h51, h52, h53⟩ := Box.four hw'
    go_simp
  clear hK K
  have cB := hide (base_c D0)
  refine wpAnyC_calls 0 (by kernel_rfl) (fun oi ho K hK => ?_)
  simp only [List.getElem?_toArray, List.getElem?_cons_zero, Option.some.injEq] at ho
  subst ho
  go_simp
  refine (unhide cB).mono ?_
  rintro r U ⟨a, rfl, sU, bU⟩
  have cD := cD.on bU cD.lt
  replace hb := hide ((unhide hb).trans (bU.mono (unhide hb).size))
  have mP := hide ((unhide mP).on bU)
  have cP := hide (pattern12_c a 2 baseT ⟨[⟨tk [97], [tk [116], tk [117]], false, false, e0⟩, ⟨tk [99], [tk [116]], false, false, e0⟩], 0, tk [110], false⟩ (some ⟨S + 1 + 1 + 1 + 1, 0, none⟩) 2 (by decide) U sU (unhide mP))
  rw [by_k02, show errO 0 = .nilIface from rfl] at cP
  clear sU bU cB
  go_simp
  refine hK _ _ cD ?_
  clear hK K
  refine wpAnyC_calls 2 (by kernel_rfl) (fun oi ho K hK => ?_)
  simp only [List.getElem?_toArray, List.getElem?_cons_succ, List.getElem?_cons_zero, Option.some.injEq] at ho
  subst ho
  go_simp
  refine (unhide cP).mono ?_
  rintro r G ⟨rfl, bG⟩
  have cD := cD.on bG cD.lt
  replace hb := hide ((unhide hb).trans (bG.mono (unhide hb).size))
  clear bG cP mP
  go_simp
  refine hK _ _ cD ?_
  clear hK K
  refine wpAnyC_reads 3 cD (by kernel_rfl) (by kernel_rfl) (by kernel_rfl) (fun d _ _ _ _ h => by cases d <;> exact h) (fun oi ho K hK => ?_)
  simp only [List.getElem?_toArray, List.getElem?_cons_succ, List.getElem?_cons_zero, Option.some.injEq] at ho
  subst ho
  rw [if_pos (by kernel_rfl)]
  refine ⟨.nilIface, fun w' hw' => ?_, hK _ ?_⟩
  · clear hw'
    go_simp
  clear hK K
  refine wpAnyC_done (by kernel_rfl) ?_ _
  go_wp2_with fail
  go_ret
  exact ⟨rfl, unhide hb⟩
theorem by_k10 : chkP baseT ⟨[⟨tk [97], [tk [116]], false, false, e0⟩, ⟨tk [99], [tk [116]], false, false, e0⟩], 0, tk [115], false⟩ = 0 := by decide +kernel
set_option maxRecDepth 100000 in
set_option maxHeartbeats 4000000 in
theorem by5_10 (n0 n1 : Int) (h0 : 0 ≤ n0) (h1 : n0 ≤ 255) (h2 : 0 ≤ n1) (h3 : n1 ≤ 255) (hm : n0 % 4 = 1) (hq : n1 % 3 = 0) (w : World) : Calls Try.prog 5 #[.int .u8 n0, .int .u8 n1] w fun e w' => e = .returned (.bool true) ∧ Below w.heap.size w w' := by
  have cK := hide (known6_c w)
  go_enter Try.func5, Try.ntmps5
  go_wp2_with fail
  refine (unhide cK).mono ?_
  rintro r w1 ⟨rfl, hb1⟩
  clear cK
  obtain ⟨S, hS⟩ : ∃ S, S = w1.heap.size := ⟨_, rfl⟩
  obtain ⟨V4, hV4⟩ : ∃ V4, V4 = (((w1.alloc (.cells #[.string ⟨#[116]⟩] 9)).alloc (.cells #[.string ⟨#[117]⟩] 9)).alloc (.cells #[.string ⟨#[116]⟩, .string ⟨#[117]⟩] 9)).alloc (.cells #[.string ⟨#[116]⟩] 9) := ⟨_, rfl⟩
  have bV4 : Below w1.heap.size w1 V4 := by rw [hV4]; exact ((((Below.refl _ _).alloc (Nat.le_refl _) _).alloc (by simp) _).alloc (by simp; omega) _).alloc (by simp; omega) _
  have sV4 : V4.heap.size = S + 1 + 1 + 1 + 1 := by rw [hV4, hS]; simp
  have t0 : Box V4 S 9 #[.string (tk [116]).1] := by rw [hV4, hS]; exact ((Box.new _ _ _).alloc _ |>.alloc _).alloc _
  have t1 : Box V4 (S + 1) 9 #[.string (tk [117]).1] := by
    have := Box.new (w1.alloc (.cells #[.string ⟨#[116]⟩] 9)) 9 #[.string ⟨#[117]⟩]
    simp only [World.size_alloc] at this
    rw [hV4, hS]; exact (this.alloc _).alloc _
  have t2 : Box V4 (S + 1 + 1) 9 #[.string (tk [116]).1, .string (tk [117]).1] := by
    have := Box.new ((w1.alloc (.cells #[.string ⟨#[116]⟩] 9)).alloc (.cells #[.string ⟨#[117]⟩] 9)) 9 #[.string ⟨#[116]⟩, .string ⟨#[117]⟩]
    simp only [World.size_alloc] at this
    rw [hV4, hS]; exact this.alloc _
  have t3 : Box V4 (S + 1 + 1 + 1) 9 #[.string (tk [116]).1] := by
    have := Box.new (((w1.alloc (.cells #[.string ⟨#[116]⟩] 9)).alloc (.cells #[.string ⟨#[117]⟩] 9)).alloc (.cells #[.string ⟨#[116]⟩, .string ⟨#[117]⟩] 9)) 9 #[.string ⟨#[116]⟩]
    simp only [World.size_alloc] at this
    rw [hV4, hS]; exact this
  obtain ⟨W2, hW2⟩ : ∃ W2, W2 = (V4.alloc (.cells (Em.cs ⟨tk [97], [tk [116]], false, false, e0⟩ ⟨some ⟨S, 0, none⟩, 1, none, 0⟩ ++ Em.cs ⟨tk [99], [tk [116]], false, false, e0⟩ ⟨some ⟨S + 1 + 1 + 1, 0, none⟩, 1, none, 0⟩) 41)).alloc (.cells (Pt.cs ⟨[⟨tk [97], [tk [116]], false, false, e0⟩, ⟨tk [99], [tk [116]], false, false, e0⟩], 0, tk [115], false⟩ (some ⟨S + 1 + 1 + 1 + 1, 0, none⟩) 2) 48) := ⟨_, rfl⟩
  have bW2 : Below V4.heap.size V4 W2 := by rw [hW2]; exact ((Below.refl _ _).alloc (Nat.le_refl _) _).alloc (by simp) _
  have eW2 : Box W2 (S + 1 + 1 + 1 + 1) 41 (Em.cs ⟨tk [97], [tk [116]], false, false, e0⟩ ⟨some ⟨S, 0, none⟩, 1, none, 0⟩ ++ Em.cs ⟨tk [99], [tk [116]], false, false, e0⟩ ⟨some ⟨S + 1 + 1 + 1, 0, none⟩, 1, none, 0⟩) := by rw [hW2, ← sV4]; exact (Box.new _ _ _).alloc _
  have pW2 : Box W2 (S + 1 + 1 + 1 + 1 + 1) 48 (Pt.cs ⟨[⟨tk [97], [tk [116]], false, false, e0⟩, ⟨tk [99], [tk [116]], false, false, e0⟩], 0, tk [115], false⟩ (some ⟨S + 1 + 1 + 1 + 1, 0, none⟩) 2) := by
    have := Box.new (V4.alloc (.cells (Em.cs ⟨tk [97], [tk [116]], false, false, e0⟩ ⟨some ⟨S, 0, none⟩, 1, none, 0⟩ ++ Em.cs ⟨tk [99], [tk [116]], false, false, e0⟩ ⟨some ⟨S + 1 + 1 + 1, 0, none⟩, 1, none, 0⟩) 41)) 48 (Pt.cs ⟨[⟨tk [97], [tk [116]], false, false, e0⟩, ⟨tk [99], [tk [116]], false, false, e0⟩], 0, tk [115], false⟩ (some ⟨S + 1 + 1 + 1 + 1, 0, none⟩) 2)
    rw [World.size_alloc, sV4] at this
    rw [hW2]; exact this
  have mW2 := ems_two _ _ _ _ eW2 ⟨txts_one _ (t0.on bW2 (by omega)), .nil _⟩ ⟨txts_one _ (t3.on bW2 (by omega)), .nil _⟩
  have bb := hb1.trans ((bV4.trans (bW2.mono bV4.size)).mono hb1.size)
  clear eW2 t0 t1 t2 t3
  have hx := by_ix1
  have hy := by_iy0 w1.heap.size
  have hmx : Try.prog.follows .mixedOrders = true := by kernel_rfl
  go_upto_region 6 with fail
  rw [← hS, show ((((((w1.alloc (.cells #[.string ⟨#[116]⟩] 9)).alloc (.cells #[.string ⟨#[117]⟩] 9)).alloc (.cells #[.string ⟨#[116]⟩, .string ⟨#[117]⟩] 9)).alloc (.cells #[.string ⟨#[116]⟩] 9)).alloc (.cells #[.string ⟨#[97]⟩, .slice (some ⟨S, 0, none⟩) 1 1, .bool false, .bool false, .int .i64 0, .int .i64 0, .int .i64 0, .string ⟨#[]⟩, .string ⟨#[]⟩, .string ⟨#[]⟩, .slice none 0 0, .string ⟨#[99]⟩, .slice (some ⟨S + 1 + 1 + 1, 0, none⟩) 1 1, .bool false, .bool false, .int .i64 0, .int .i64 0, .int .i64 0, .string ⟨#[]⟩, .string ⟨#[]⟩, .string ⟨#[]⟩, .slice none 0 0] 41)).alloc (.cells #[.slice (some ⟨S + 1 + 1 + 1 + 1, 0, none⟩) 2 2, .int .i64 0, .string ⟨#[115]⟩, .bool false] 48)) = W2 from by rw [hW2, hV4]; rfl]
  obtain ⟨D0, hD0⟩ : ∃ D0, D0 = W2.drew := ⟨_, rfl⟩
  have bD : Below W2.heap.size W2 D0 := by rw [hD0]; exact (Below.refl _ _).drew
  have cD : Box D0 (S + 1 + 1 + 1 + 1 + 1) 48 (Pt.cs ⟨[⟨tk [97], [tk [116]], false, false, e0⟩, ⟨tk [99], [tk [116]], false, false, e0⟩], 0, tk [115], false⟩ (some ⟨S + 1 + 1 + 1 + 1, 0, none⟩) 2) := pW2.on bD pW2.lt
  have mP := hide (mW2.on bD)
  have hb := hide (bb.trans (bD.mono bb.size))
  refine wp_region_any hmx (wpAny_of_C (C := fun w' => Box w' (S + 1 + 1 + 1 + 1 + 1) 48 (Pt.cs ⟨[⟨tk [97], [tk [116]], false, false, e0⟩, ⟨tk [99], [tk [116]], false, false, e0⟩], 0, tk [115], false⟩ (some ⟨S + 1 + 1 + 1 + 1, 0, none⟩) 2)) _ _ _ _ ?_)
  rw [show ({ heap := W2.heap, tape := W2.tape, drawn := W2.drawn + 1, os := W2.os, output := W2.output } : World) = D0 from hD0.symm]
  clear hD0 bD pW2 mW2 bb hW2 hV4 bV4 bW2 sV4 hb1 hx hy
  replace hS := hide hS
  refine wpAnyC_reads 1 cD (by kernel_rfl) (by kernel_rfl) (by kernel_rfl) (fun d _ _ _ _ h => by cases d <;> exact h) (fun oi ho K hK => ?_)
  simp only [List.getElem?_toArray, List.getElem?_cons_succ, List.getElem?_cons_zero, Option.some.injEq] at ho
  subst ho
  rw [if_pos (by kernel_rfl)]
  refine ⟨Pt.v ⟨[⟨tk [97], [tk [116]], false, false, e0⟩, ⟨tk [99], [tk [116]], false, false, e0⟩], 0, tk [115], false⟩ (some ⟨S + 1 + 1 + 1 + 1, 0, none⟩) 2, fun w' hw' => ?_, hK _ ?_⟩
  · obtain ⟨h50, h51, h52, h53⟩ := Box.four hw'
    go_simp
  clear hK K
  have cB := hide (base_c D0)
  refine wpAnyC_calls 0 (by kernel_rfl) (fun oi ho K hK => ?_)
  simp only [List.getElem?_toArray, List.getElem?_cons_zero, Option.some.injEq] at ho
  subst ho
  go_simp
  refine (unhide cB).mono ?_
  rintro r U ⟨a, rfl, sU, bU⟩
  have cD := cD.on bU cD.lt
  replace hb := hide ((unhide hb).trans (bU.mono (unhide hb).size))
  have mP := hide ((unhide mP).on bU)
  have cP := hide (pattern12_c a 2 baseT ⟨[⟨tk [97], [tk [116]], false, false, e0⟩, ⟨tk [99], [tk [116]], false, false, e0⟩], 0, tk [115], false⟩ (some ⟨S + 1 + 1 + 1 + 1, 0, none⟩) 2 (by decide) U sU (unhide mP))
  rw [by_k10, show errO 0 = .nilIface from rfl] at cP
  clear sU bU cB
  go_simp
  refine hK _ _ cD ?_
  clear hK K
  refine wpAnyC_calls 2 (by kernel_rfl) (fun oi ho K hK => ?_)
  simp only [List.getElem?_toArray, List.getElem?_cons_succ, List.getElem?_cons_zero, Option.some.injEq] at ho
  subst ho
  go_simp
  refine (unhide cP).mono ?_
  rintro r G ⟨rfl, bG⟩
  have cD := cD.on bG cD.lt
  replace hb := hide ((unhide hb).trans (bG.mono (unhide hb).size))
  clear bG cP mP
  go_simp
  refine hK _ _ cD ?_
  clear hK K
  refine wpAnyC_reads 3 cD (by kernel_rfl) (by kernel_rfl) (by kernel_rfl) (fun d _ _ _ _ h => by cases d <;> exact h) (fun oi ho K hK => ?_)
  simp only [List.getElem?_toArray, List.getElem?_cons_succ, List.getElem?_cons_zero, Option.some.injEq] at ho
  subst ho
  rw [if_pos (by kernel_rfl)]
  refine ⟨.nilIface, fun w' hw' => ?_, hK _ ?_⟩
  · clear hw'
    go_simp
  clear hK K
  refine wpAnyC_done (by kernel_rfl) ?_ _
  go_wp2_with fail
  go_ret
  exact ⟨rfl, unhide hb⟩
theorem by_k11 : chkP baseT ⟨[⟨tk [97], [tk [117]], false, false, e0⟩, ⟨tk [99], [tk [116]], false, false, e0⟩], 0, tk [115], false⟩ = 14 := by decide +kernel
set_option maxRecDepth 100000 in
set_option maxHeartbeats 4000000 in
theorem by5_11 (n0 n1 : Int) (h0 : 0 ≤ n0) (h1 : n0 ≤ 255) (h2 : 0 ≤ n1) (h3 : n1 ≤ 255) (hm : n0 % 4 = 1) (hq : n1 % 3 = 1) (w : World) : Calls Try.prog 5 #[.int .u8 n0, .int .u8 n1] w fun e w' => e = .returned (.bool true) ∧ Below w.heap.size w w' := by
  have cK := hide (known6_c w)
  go_enter Try.func5, Try.ntmps5
  go_wp2_with fail
  refine (unhide cK).mono ?_
  rintro r w1 ⟨rfl, hb1⟩
  clear cK
  obtain ⟨S, hS⟩ : ∃ S, S = w1.heap.size := ⟨_, rfl⟩
  obtain ⟨V4, hV4⟩ : ∃ V4, V4 = (((w1.alloc (.cells #[.string ⟨#[116]⟩] 9)).alloc (.cells #[.string ⟨#[117]⟩] 9)).alloc (.cells #[.string ⟨#[116]⟩, .string ⟨#[117]⟩] 9)).alloc (.cells #[.string ⟨#[116]⟩] 9) := ⟨_, rfl⟩
  have bV4 : Below w1.heap.size w1 V4 := by rw [hV4]; exact ((((Below.refl _ _).alloc (Nat.le_refl _) _).alloc (by simp) _).alloc (by simp; omega) _).alloc (by simp; omega) _
  have sV4 : V4.heap.size = S + 1 + 1 + 1 + 1 := by rw [hV4, hS]; simp
  have t0 : Box V4 S 9 #[.string (tk [116]).1] := by rw [hV4, hS]; exact ((Box.new _ _ _).alloc _ |>.alloc _).alloc _
  have t1 : Box V4 (S + 1) 9 #[.string (tk [117]).1] := by
    have := Box.new (w1.alloc (.cells #[.string ⟨#[116]⟩] 9)) 9 #[.string ⟨#[117]⟩]
    simp only [World.size_alloc] at this
    rw [hV4, hS]; exact (this.alloc _).alloc _
  have t2 : Box V4 (S + 1 + 1) 9 #[.string (tk [116]).1, .string (tk [117]).1] := by
    have := Box.new ((w1.alloc (.cells #[.string ⟨#[116]⟩] 9)).alloc (.cells #[.string ⟨#[117]⟩] 9)) 9 #[.string ⟨#[116]⟩, .string ⟨#[117]⟩]
    simp only [World.size_alloc] at this
    rw [hV4, hS]; exact this.alloc _
  have t3 : Box V4 (S + 1 + 1 + 1) 9 #[.string (tk [116]).1] := by
    have := Box.new (((w1.alloc (.cells #[.string ⟨#[116]⟩] 9)).alloc (.cells #[.string ⟨#[117]⟩] 9)).alloc (.cells #[.string ⟨#[116]⟩, .string ⟨#[117]⟩] 9)) 9 #[.string ⟨#[116]⟩]
    simp only [World.size_alloc] at this
    rw [hV4, hS]; exact this
  obtain ⟨W2, hW2⟩ : ∃ W2, W2 = (V4.alloc (.cells (Em.cs ⟨tk [97], [tk [117]], false, false, e0⟩ ⟨some ⟨S + 1, 0, none⟩, 1, none, 0⟩ ++ Em.cs ⟨tk [99], [tk [116]], false, false, e0⟩ ⟨some ⟨S + 1 + 1 + 1, 0, none⟩, 1, none, 0⟩) 41)).alloc (.cells (Pt.cs ⟨[⟨tk [97], [tk [117]], false, false, e0⟩, ⟨tk [99], [tk [116]], false, false, e0⟩], 0, tk [115], false⟩ (some ⟨S + 1 + 1 + 1 + 1, 0, none⟩) 2) 48) := ⟨_, rfl⟩
  have bW2 : Below V4.heap.size V4 W2 := by rw [hW2]; exact ((Below.refl _ _).alloc (Nat.le_refl _) _).alloc (by simp) _
  have eW2 : Box W2 (S + 1 + 1 + 1 + 1) 41 (Em.cs ⟨tk [97], [tk [117]], false, false, e0⟩ ⟨some ⟨S + 1, 0, none⟩, 1, none, 0⟩ ++ Em.cs ⟨tk [99], [tk [116]], false, false, e0⟩ ⟨some ⟨S + 1 + 1 + 1, 0, none⟩, 1, none, 0⟩) := by rw [hW2, ← sV4]; exact (Box.new _ _ _).alloc _
  have pW2 : Box W2 (S + 1 + 1 + 1 + 1 + 1) 48 (Pt.cs ⟨[⟨tk [97], [tk [117]], false, false, e0⟩, ⟨tk [99], [tk [116]], false, false, e0⟩], 0, tk [115], false⟩ (some ⟨S + 1 + 1 + 1 + 1, 0, none⟩) 2) := by
    have := Box.new (V4.alloc (.cells (Em.cs ⟨tk [97], [tk [117]], false, false, e0⟩ ⟨some ⟨S + 1, 0, none⟩, 1, none, 0⟩ ++ Em.cs ⟨tk [99], [tk [116]], false, false, e0⟩ ⟨some ⟨S + 1 + 1 + 1, 0, none⟩, 1, none, 0⟩) 41)) 48 (Pt.cs ⟨[⟨tk [97], [tk [117]], false, false, e0⟩, ⟨tk [99], [tk [116]], false, false, e0⟩], 0, tk [115], false⟩ (some ⟨S + 1 + 1 + 1 + 1, 0, none⟩) 2)
    rw [World.size_alloc, sV4] at this
    rw [hW2]; exact this
  have mW2 := ems_two _ _ _ _ eW2 ⟨txts_one _ (t1.on bW2 (by omega)), .nil _⟩ ⟨txts_one _ (t3.on bW2 (by omega)), .nil _⟩
  have bb := hb1.trans ((bV4.trans (bW2.mono bV4.size)).mono hb1.size)
  clear eW2 t0 t1 t2 t3
  have hx := by_ix1
  have hy := by_iy1 w1.heap.size
  have hmx : Try.prog.follows .mixedOrders = true := by kernel_rfl
  go_upto_region 6 with fail
  rw [← hS, show ((((((w1.alloc (.cells #[.string ⟨#[116]⟩] 9)).alloc (.cells #[.string ⟨#[117]⟩] 9)).alloc (.cells #[.string ⟨#[116]⟩, .string ⟨#[117]⟩] 9)).alloc (.cells #[.string ⟨#[116]⟩] 9)).alloc (.cells #[.string ⟨#[97]⟩, .slice (some ⟨S + 1, 0, none⟩) 1 1, .bool false, .bool false, .int .i64 0, .int .i64 0, .int .i64 0, .string ⟨#[]⟩, .string ⟨#[]⟩, .string ⟨#[]⟩, .slice none 0 0, .string ⟨#[99]⟩, .slice (some ⟨S + 1 + 1 + 1, 0, none⟩) 1 1, .bool false, .bool false, .int .i64 0, .int .i64 0, .int .i64 0, .string ⟨#[]⟩, .string ⟨#[]⟩, .string ⟨#[]⟩, .slice none 0 0] 41)).alloc (.cells #[.slice (some ⟨S + 1 + 1 + 1 + 1, 0, none⟩) 2 2, .int .i64 0, .string ⟨#[115]⟩, .bool false] 48)) = W2 from by rw [hW2, hV4]; rfl]
  obtain ⟨D0, hD0⟩ : ∃ D0, D0 = W2.drew := ⟨_, rfl⟩
  have bD : Below W2.heap.size W2 D0 := by rw [hD0]; exact (Below.refl _ _).drew
  have cD : Box D0 (S + 1 + 1 + 1 + 1 + 1) 48 (Pt.cs ⟨[⟨tk [97], [tk [117]], false, false, e0⟩, ⟨tk [99], [tk [116]], false, false, e0⟩], 0, tk [115], false⟩ (some ⟨S + 1 + 1 + 1 + 1, 0, none⟩) 2) := pW2.on bD pW2.lt
  have mP := hide (mW2.on bD)
  have hb := hide (bb.trans (bD.mono bb.size))
  refine wp_region_any hmx (wpAny_of_C (C := fun w' => Box w' (S + 1 + 1 + 1 + 1 + 1) 48 (Pt.cs ⟨[⟨tk [97], [tk [117]], false, false, e0⟩, ⟨tk [99], [tk [116]], false, false, e0⟩], 0, tk [115], false⟩ (some ⟨S + 1 + 1 + 1 + 1, 0, none⟩) 2)) _ _ _ _ ?_)
  rw [show ({ heap := W2.heap, tape := W2.tape, drawn := W2.drawn + 1, os := W2.os, output := W2.output } : World) = D0 from hD0.symm]
  clear hD0 bD pW2 mW2 bb hW2 hV4 bV4 bW2 sV4 hb1 hx hy
  replace hS := hide hS
  refine wpAnyC_reads 1 cD (by kernel_rfl) (by kernel_rfl) (by kernel_rfl) (fun d _ _ _ _ h => by cases d <;> exact h) (fun oi ho K hK => ?_)
  simp only [List.getElem?_toArray, List.getElem?_cons_succ, List.getElem?_cons_zero, Option.some.injEq] at ho
  subst ho
  rw [if_pos (by kernel_rfl)]
  refine ⟨Pt.v ⟨[⟨tk [97], [tk [117]], false, false, e0⟩, ⟨tk [99], [tk [116]], false, false, e0⟩], 0, tk [115], false⟩ (some ⟨S + 1 + 1 + 1 + 1, 0, none⟩) 2, fun w' hw' => ?_, hK _ ?_⟩
  · obtain ⟨h50, h51, h52, h53⟩ := Box.four hw'
    go_simp
  clear hK K
  have cB := hide (base_c D0)
  refine wpAnyC_calls 0 (by kernel_rfl) (fun oi ho K hK => ?_)
  simp only [List.getElem?_toArray, List.getElem?_cons_zero, Option.some.injEq] at ho
  subst ho
  go_simp
  refine (unhide cB).mono ?_
  rintro r U ⟨a, rfl, sU, bU⟩
  have cD := cD.on bU cD.lt
  replace hb := hide ((unhide hb).trans (bU.mono (unhide hb).size))
  have mP := hide ((unhide mP).on bU)
  have cP := hide (pattern12_c a 2 baseT ⟨[⟨tk [97], [tk [117]], false, false, e0⟩, ⟨tk [99], [tk [116]], false, false, e0⟩], 0, tk [115], false⟩ (some ⟨S + 1 + 1 + 1 + 1, 0, none⟩) 2 (by decide) U sU (unhide mP))
  rw [by_k11, show errO 14 = errV 14 from rfl] at cP
  clear sU bU cB
  go_simp
  refine hK _ _ cD ?_
  clear hK K
  refine wpAnyC_calls 2 (by kernel_rfl) (fun oi ho K hK => ?_)
  simp only [List.getElem?_toArray, List.getElem?_cons_succ, List.getElem?_cons_zero, Option.some.injEq] at ho
  subst ho
  go_simp
  refine (unhide cP).mono ?_
  rintro r G ⟨rfl, bG⟩
  have cD := cD.on bG cD.lt
  replace hb := hide ((unhide hb).trans (bG.mono (unhide hb).size))
  clear bG cP mP
  go_simp
  refine hK _ _ cD ?_
  clear hK K
  refine wpAnyC_reads 3 cD (by kernel_rfl) (by kernel_rfl) (by kernel_rfl) (fun d _ _ _ _ h => by cases d <;> exact h) (fun oi ho K hK => ?_)
  simp only [List.getElem?_toArray, List.getElem?_cons_succ, List.getElem?_cons_zero, Option.some.injEq] at ho
  subst ho
  rw [if_pos (by kernel_rfl)]
  refine ⟨errV 14, fun w' hw' => ?_, hK _ ?_⟩
  · clear hw'
    go_simp
  clear hK K
  refine wpAnyC_done (by kernel_rfl) ?_ _
  go_wp2_with fail
  refine (errIs_same 14 G).mono ?_
  rintro r w9 ⟨rfl, rfl⟩
  go_wp2_with fail
  go_ret
  exact ⟨rfl, unhide hb⟩
theorem by_k12 : chkP baseT ⟨[⟨tk [97], [tk [116], tk [117]], false, false, e0⟩, ⟨tk [99], [tk [116]], false, false, e0⟩], 0, tk [115], false⟩ = 14 := by decide +kernel
set_option maxRecDepth 100000 in
set_option maxHeartbeats 4000000 in
theorem by5_12 (n0 n1 : Int) (h0 : 0 ≤ n0) (h1 : n0 ≤ 255) (h2 : 0 ≤ n1) (h3 : n1 ≤ 255) (hm : n0 % 4 = 1) (hq : n1 % 3 = 2) (w : World) : Calls Try.prog 5 #[.int .u8 n0, .int .u8 n1] w fun e w' => e = .returned (.bool true) ∧ Below w.heap.size w w' := by
  have cK := hide (known6_c w)
  go_enter Try.func5, Try.ntmps5
  go_wp2_with fail
  refine (unhide cK).mono ?_
  rintro r w1 ⟨rfl, hb1⟩
  clear cK
  obtain ⟨S, hS⟩ : ∃ S, S = w1.heap.size := ⟨_, rfl⟩
  obtain ⟨V4, hV4⟩ : ∃ V4, V4 = (((w1.alloc (.cells #[.string ⟨#[116]⟩] 9)).alloc (.cells #[.string ⟨#[117]⟩] 9)).alloc (.cells #[.string ⟨#[116]⟩, .string ⟨#[117]⟩] 9)).alloc (.cells #[.string ⟨#[116]⟩] 9) := ⟨_, rfl⟩
  have bV4 : Below w1.heap.size w1 V4 := by rw [hV4]; exact ((((Below.refl _ _).alloc (Nat.le_refl _) _).alloc (by simp) _).alloc (by simp; omega) _).alloc (by simp; omega) _
  have sV4 : V4.heap.size = S + 1 + 1 + 1 + 1 := by rw [hV4, hS]; simp
  have t0 : Box V4 S 9 #[.string (tk [116]).1] := by rw [hV4, hS]; exact ((Box.new _ _ _).alloc _ |>.alloc _).alloc _
  have t1 : Box V4 (S + 1) 9 #[.string (tk [117]).1] := by
    have := Box.new (w1.alloc (.cells #[.string ⟨#[116]⟩] 9)) 9 #[.string ⟨#[117]⟩]
    simp only [World.size_alloc] at this
    rw [hV4, hS]; exact (this.alloc _).alloc _
  have t2 : Box V4 (S + 1 + 1) 9 #[.string (tk [116]).1, .string (tk [117]).1] := by
    have := Box.new ((w1.alloc (.cells #[.string ⟨#[116]⟩] 9)).alloc (.cells #[.string ⟨#[117]⟩] 9)) 9 #[.string ⟨#[116]⟩, .string ⟨#[117]⟩]
    simp only [World.size_alloc] at this
    rw [hV4, hS]; exact this.alloc _
  have t3 : Box V4 (S + 1 + 1 + 1) 9 #[.string (tk [116]).1] := by
    have := Box.new (((w1.alloc (.cells #[.string ⟨#[116]⟩] 9)).alloc (.cells #[.string ⟨#[117]⟩] 9)).alloc (.cells #[.string ⟨#[116]⟩, .string ⟨#[117]⟩] 9)) 9 #[.string ⟨#[116]⟩]
    simp only [World.size_alloc] at this
    rw [hV4, hS]; exact this
  obtain ⟨W2, hW2⟩ : ∃ W2, W2 = (V4.alloc (.cells (Em.cs ⟨tk [97], [tk [116], tk [117]], false, false, e0⟩ ⟨some ⟨S + 1 + 1, 0, none⟩, 2, none, 0⟩ ++ Em.cs ⟨tk [99], [tk [116]], false, false, e0⟩ ⟨some ⟨S + 1 + 1 + 1, 0, none⟩, 1, none, 0⟩) 41)).alloc (.cells (Pt.cs ⟨[⟨tk [97], [tk [116], tk [117]], false, false, e0⟩, ⟨tk [99], [tk [116]], false, false, e0⟩], 0, tk [115], false⟩ (some ⟨S + 1 + 1 + 1 + 1, 0, none⟩) 2) 48) := ⟨_, rfl⟩
  have bW2 : Below V4.heap.size V4 W2 := by rw [hW2]; exact ((Below.refl _ _).alloc (Nat.le_refl _) _).alloc (by simp) _
  have eW2 : Box W2 (S + 1 + 1 + 1 + 1) 41 (Em.cs ⟨tk [97], [tk [116], tk [117]], false, false, e0⟩ ⟨some ⟨S + 1 + 1, 0, none⟩, 2, none, 0⟩ ++ Em.cs ⟨tk [99], [tk [116]], false, false, e0⟩ ⟨some ⟨S + 1 + 1 + 1, 0, none⟩, 1, none, 0⟩) := by rw [hW2, ← sV4]; exact (Box.new _ _ _).alloc _
  have pW2 : Box W2 (S + 1 + 1 + 1 + 1 + 1) 48 (Pt.cs ⟨[⟨tk [97], [tk [116], tk [117]], false, false, e0⟩, ⟨tk [99], [tk [116]], false, false, e0⟩], 0, tk [115], false⟩ (some ⟨S + 1 + 1 + 1 + 1, 0, none⟩) 2) := by
    have := Box.new (V4.alloc (.cells (Em.cs ⟨tk [97], [tk [116], tk [117]], false, false, e0⟩ ⟨some ⟨S + 1 + 1, 0, none⟩, 2, none, 0⟩ ++ Em.cs ⟨tk [99], [tk [116]], false, false, e0⟩ ⟨some ⟨S + 1 + 1 + 1, 0, none⟩, 1, none, 0⟩) 41)) 48 (Pt.cs ⟨[⟨tk [97], [tk [116], tk [117]], false, false, e0⟩, ⟨tk [99], [tk [116]], false, false, e0⟩], 0, tk [115], false⟩ (some ⟨S + 1 + 1 + 1 + 1, 0, none⟩) 2)
    rw [World.size_alloc, sV4] at this
    rw [hW2]; exact this
  have mW2 := ems_two _ _ _ _ eW2 ⟨txts_two _ _ (t2.on bW2 (by omega)), .nil _⟩ ⟨txts_one _ (t3.on bW2 (by omega)), .nil _⟩
  have bb := hb1.trans ((bV4.trans (bW2.mono bV4.size)).mono hb1.size)
  clear eW2 t0 t1 t2 t3
  have hx := by_ix1
  have hy := by_iy2 w1.heap.size
  have hmx : Try.prog.follows .mixedOrders = true := by kernel_rfl
  go_upto_region 6 with fail
  rw [← hS, show ((((((w1.alloc (.cells #[.string ⟨#[116]⟩] 9)).alloc (.cells #[.string ⟨#[117]⟩] 9)).alloc (.cells #[.string ⟨#[116]⟩, .string ⟨#[117]⟩] 9)).alloc (.cells #[.string ⟨#[116]⟩] 9)).alloc (.cells #[.string ⟨#[97]⟩, .slice (some ⟨S + 1 + 1, 0, none⟩) 2 2, .bool false, .bool false, .int .i64 0, .int .i64 0, .int .i64 0, .string ⟨#[]⟩, .string ⟨#[]⟩, .string ⟨#[]⟩, .slice none 0 0, .string ⟨#[99]⟩, .slice (some ⟨S + 1 + 1 + 1, 0, none⟩) 1 1, .bool false, .bool false, .int .i64 0, .int .i64 0, .int .i64 0, .string ⟨#[]⟩, .string ⟨#[]⟩, .string ⟨#[]⟩, .slice none 0 0] 41)).alloc (.cells #[.slice (some ⟨S + 1 + 1 + 1 + 1, 0, none⟩) 2 2, .int .i64 0, .string ⟨#[115]⟩, .bool false] 48)) = W2 from by rw [hW2, hV4]; rfl]
  obtain ⟨D0, hD0⟩ : ∃ D0, D0 = W2.drew := ⟨_, rfl⟩
  have bD : Below W2.heap.size W2 D0 := by rw [hD0]; exact (Below.refl _ _).drew
  have cD : Box D0 (S + 1 + 1 + 1 + 1 + 1) 48 (Pt.cs ⟨[⟨tk [97], [tk [116], tk [117]], false, false, e0⟩, ⟨tk [99], [tk [116]], false, false, e0⟩], 0, tk [115], false⟩ (some ⟨S + 1 + 1 + 1 + 1, 0, none⟩) 2) := pW2.on bD pW2.lt
  have mP := hide (mW2.on bD)
  have hb := hide (bb.trans (bD.mono bb.size))
  refine wp_region_any hmx (wpAny_of_C (C := fun w' => Box w' (S + 1 + 1 + 1 + 1 + 1) 48 (Pt.cs ⟨[⟨tk [97], [tk [116], tk [117]], false, false, e0⟩, ⟨tk [99], [tk [116]], false, false, e0⟩], 0, tk [115], false⟩ (some ⟨S + 1 + 1 + 1 + 1, 0, none⟩) 2)) _ _ _ _ ?_)
  rw [show ({ heap := W2.heap, tape := W2.tape, drawn := W2.drawn + 1, os := W2.os, output := W2.output } : World) = D0 from hD0.symm]
  clear hD0 bD pW2 mW2 bb hW2 hV4 bV4 bW2 sV4 hb1 hx hy
  replace hS := hide hS
  refine wpAnyC_reads 1 cD (by kernel_rfl) (by kernel_rfl) (by kernel_rfl) (fun d _ _ _ _ h => by cases d <;> exact h) (fun oi ho K hK => ?_)
  simp only [List.getElem?_toArray, List.getElem?_cons_succ, List.getElem?_cons_zero, Option.some.injEq] at ho
  subst ho
  rw [if_pos (by kernel_rfl)]
  refine ⟨Pt.v ⟨[⟨tk [97], [tk [116], tk [117]], false, false, e0⟩, ⟨tk [99], [tk [116]], false, false, e0⟩], 0, tk [115], false⟩ (some ⟨S + 1 + 1 + 1 + 1, 0, none⟩) 2, fun w' hw' => ?_, hK _ ?_⟩
  · obtain ⟨h50, h51, h52, h53⟩ := Box.four hw'
    go_simp
  clear hK K
  have cB := hide (base_c D0)
  refine wpAnyC_calls 0 (by kernel_rfl) (fun oi ho K hK => ?_)
  simp only [List.getElem?_toArray, List.getElem?_cons_zero, Option.some.injEq] at ho
  subst ho
  go_simp
  refine (unhide cB).mono ?_
  rintro r U ⟨a, rfl, sU, bU⟩
  have cD := cD.on bU cD.lt
  replace hb := hide ((unhide hb).trans (bU.mono (unhide hb).size))
  have mP := hide ((unhide mP).on bU)
  have cP := hide (pattern12_c a 2 baseT ⟨[⟨tk [97], [tk [116], tk [117]], false, false, e0⟩, ⟨tk [99], [tk [116]], false, false, e0⟩], 0, tk [115], false⟩ (some ⟨S + 1 + 1 + 1 + 1, 0, none⟩) 2 (by decide) U sU (unhide mP))
  rw [by_k12, show errO 14 = errV 14 from rfl] at cP
  clear sU bU cB
  go_simp
  refine hK _ _ cD ?_
  clear hK K
  refine wpAnyC_calls 2 (by kernel_rfl) (fun oi ho K hK => ?_)
  simp only [List.getElem?_toArray, List.getElem?_cons_succ, List.getElem?_cons_zero, Option.some.injEq] at ho
  subst ho
  go_simp
  refine (unhide cP).mono ?_
  rintro r G ⟨rfl, bG⟩
  have cD := cD.on bG cD.lt
  replace hb := hide ((unhide hb).trans (bG.mono (unhide hb).size))
  clear bG cP mP
  go_simp
  refine hK _ _ cD ?_
  clear hK K
  refine wpAnyC_reads 3 cD (by kernel_rfl) (by kernel_rfl) (by kernel_rfl) (fun d _ _ _ _ h => by cases d <;> exact h) (fun oi ho K hK => ?_)
  simp only [List.getElem?_toArray, List.getElem?_cons_succ, List.getElem?_cons_zero, Option.some.injEq] at ho
  subst ho
  rw [if_pos (by kernel_rfl)]
  refine ⟨errV 14, fun w' hw' => ?_, hK _ ?_⟩
  · clear hw'
    go_simp
  clear hK K
  refine wpAnyC_done (by kernel_rfl) ?_ _
  go_wp2_with fail
  refine (errIs_same 14 G).mono ?_
  rintro r w9 ⟨rfl, rfl⟩
  go_wp2_with fail
  go_ret
  exact ⟨rfl, unhide hb⟩
theorem by_k20 : chkP baseT ⟨[⟨tk [97], [tk [116]], false, false, e0⟩, ⟨tk [99], [tk [116]], false, false, e0⟩], 0, tk [98], false⟩ = 0 := by decide +kernel
set_option maxRecDepth 100000 in
set_option maxHeartbeats 4000000 in
theorem by5_20 (n0 n1 : Int) (h0 : 0 ≤ n0) (h1 : n0 ≤ 255) (h2 : 0 ≤ n1) (h3 : n1 ≤ 255) (hm : n0 % 4 = 2) (hq : n1 % 3 = 0) (w : World) : Calls Try.prog 5 #[.int .u8 n0, .int .u8 n1] w fun e w' => e = .returned (.bool true) ∧ Below w.heap.size w w' := by
  have cK := hide (known6_c w)
  go_enter Try.func5, Try.ntmps5
  go_wp2_with fail
  refine (unhide cK).mono ?_
  rintro r w1 ⟨rfl, hb1⟩
  clear cK
  obtain ⟨S, hS⟩ : ∃ S, S = w1.heap.size := ⟨_, rfl⟩
  obtain ⟨V4, hV4⟩ : ∃ V4, V4 = (((w1.alloc (.cells #[.string ⟨#[116]⟩] 9)).alloc (.cells #[.string ⟨#[117]⟩] 9)).alloc (.cells #[.string ⟨#[116]⟩, .string ⟨#[117]⟩] 9)).alloc (.cells #[.string ⟨#[116]⟩] 9) := ⟨_, rfl⟩
  have bV4 : Below w1.heap.size w1 V4 := by rw [hV4]; exact ((((Below.refl _ _).alloc (Nat.le_refl _) _).alloc (by simp) _).alloc (by simp; omega) _).alloc (by simp; omega) _
  have sV4 : V4.heap.size = S + 1 + 1 + 1 + 1 := by rw [hV4, hS]; simp
  have t0 : Box V4 S 9 #[.string (tk [116]).1] := by rw [hV4, hS]; exact ((Box.new _ _ _).alloc _ |>.alloc _).alloc _
  have t1 : Box V4 (S + 1) 9 #[.string (tk [117]).1] := by
    have := Box.new (w1.alloc (.cells #[.string ⟨#[116]⟩] 9)) 9 #[.string ⟨#[117]⟩]
    simp only [World.size_alloc] at this
    rw [hV4, hS]; exact (this.alloc _).alloc _
  have t2 : Box V4 (S + 1 + 1) 9 #[.string (tk [116]).1, .string (tk [117]).1] := by
    have := Box.new ((w1.alloc (.cells #[.string ⟨#[116]⟩] 9)).alloc (.cells #[.string ⟨#[117]⟩] 9)) 9 #[.string ⟨#[116]⟩, .string ⟨#[117]⟩]
    simp only [World.size_alloc] at this
    rw [hV4, hS]; exact this.alloc _
  have t3 : Box V4 (S + 1 + 1 + 1) 9 #[.string (tk [116]).1] := by
    have := Box.new (((w1.alloc (.cells #[.string ⟨#[116]⟩] 9)).alloc (.cells #[.string ⟨#[117]⟩] 9)).alloc (.cells #[.string ⟨#[116]⟩, .string ⟨#[117]⟩] 9)) 9 #[.string ⟨#[116]⟩]
    simp only [World.size_alloc] at this
    rw [hV4, hS]; exact this
  obtain ⟨W2, hW2⟩ : ∃ W2, W2 = (V4.alloc (.cells (Em.cs ⟨tk [97], [tk [116]], false, false, e0⟩ ⟨some ⟨S, 0, none⟩, 1, none, 0⟩ ++ Em.cs ⟨tk [99], [tk [116]], false, false, e0⟩ ⟨some ⟨S + 1 + 1 + 1, 0, none⟩, 1, none, 0⟩) 41)).alloc (.cells (Pt.cs ⟨[⟨tk [97], [tk [116]], false, false, e0⟩, ⟨tk [99], [tk [116]], false, false, e0⟩], 0, tk [98], false⟩ (some ⟨S + 1 + 1 + 1 + 1, 0, none⟩) 2) 48) := ⟨_, rfl⟩
  have bW2 : Below V4.heap.size V4 W2 := by rw [hW2]; exact ((Below.refl _ _).alloc (Nat.le_refl _) _).alloc (by simp) _
  have eW2 : Box W2 (S + 1 + 1 + 1 + 1) 41 (Em.cs ⟨tk [97], [tk [116]], false, false, e0⟩ ⟨some ⟨S, 0, none⟩, 1, none, 0⟩ ++ Em.cs ⟨tk [99], [tk [116]], false, false, e0⟩ ⟨some ⟨S + 1 + 1 + 1, 0, none⟩, 1, none, 0⟩) := by rw [hW2, ← sV4]; exact (Box.new _ _ _).alloc _
  have pW2 : Box W2 (S + 1 + 1 + 1 + 1 + 1) 48 (Pt.cs ⟨[⟨tk [97], [tk [116]], false, false, e0⟩, ⟨tk [99], [tk [116]], false, false, e0⟩], 0, tk [98], false⟩ (some ⟨S + 1 + 1 + 1 + 1, 0, none⟩) 2) := by
    have := Box.new (V4.alloc (.cells (Em.cs ⟨tk [97], [tk [116]], false, false, e0⟩ ⟨some ⟨S, 0, none⟩, 1, none, 0⟩ ++ Em.cs ⟨tk [99], [tk [116]], false, false, e0⟩ ⟨some ⟨S + 1 + 1 + 1, 0, none⟩, 1, none, 0⟩) 41)) 48 (Pt.cs ⟨[⟨tk [97], [tk [116]], false, false, e0⟩, ⟨tk [99], [tk [116]], false, false, e0⟩], 0, tk [98], false⟩ (some ⟨S + 1 + 1 + 1 + 1, 0, none⟩) 2)
    rw [World.size_alloc, sV4] at this
    rw [hW2]; exact this
  have mW2 := ems_two _ _ _ _ eW2 ⟨txts_one _ (t0.on bW2 (by omega)), .nil _⟩ ⟨txts_one _ (t3.on bW2 (by omega)), .nil _⟩
  have bb := hb1.trans ((bV4.trans (bW2.mono bV4.size)).mono hb1.size)
  clear eW2 t0 t1 t2 t3
  have hx := by_ix2
  have hy := by_iy0 w1.heap.size
  have hmx : Try.prog.follows .mixedOrders = true := by kernel_rfl
  go_upto_region 6 with fail
  rw [← hS, show ((((((w1.alloc (.cells #[.string ⟨#[116]⟩] 9)).alloc (.cells #[.string ⟨#[117]⟩] 9)).alloc (.cells #[.string ⟨#[116]⟩, .string ⟨#[117]⟩] 9)).alloc (.cells #[.string ⟨#[116]⟩] 9)).alloc (.cells #[.string ⟨#[97]⟩, .slice (some ⟨S, 0, none⟩) 1 1, .bool false, .bool false, .int .i64 0, .int .i64 0, .int .i64 0, .string ⟨#[]⟩, .string ⟨#[]⟩, .string ⟨#[]⟩, .slice none 0 0, .string ⟨#[99]⟩, .slice (some ⟨S + 1 + 1 + 1, 0, none⟩) 1 1, .bool false, .bool false, .int .i64 0, .int .i64 0, .int .i64 0, .string ⟨#[]⟩, .string ⟨#[]⟩, .string ⟨#[]⟩, .slice none 0 0] 41)).alloc (.cells #[.slice (some ⟨S + 1 + 1 + 1 + 1, 0, none⟩) 2 2, .int .i64 0, .string ⟨#[98]⟩, .bool false] 48)) = W2 from by rw [hW2, hV4]; rfl]
  obtain ⟨D0, hD0⟩ : ∃ D0, D0 = W2.drew := ⟨_, rfl⟩
  have bD : Below W2.heap.size W2 D0 := by rw [hD0]; exact (Below.refl _ _).drew
  have cD : Box D0 (S + 1 + 1 + 1 + 1 + 1) 48 (Pt.cs ⟨[⟨tk [97], [tk [116]], false, false, e0⟩, ⟨tk [99], [tk [116]], false, false, e0⟩], 0, tk [98], false⟩ (some ⟨S + 1 + 1 + 1 + 1, 0, none⟩) 2) := pW2.on bD pW2.lt
  have mP := hide (mW2.on bD)
  have hb := hide (bb.trans (bD.mono bb.size))
  refine wp_region_any hmx (wpAny_of_C (C := fun w' => Box w' (S + 1 + 1 + 1 + 1 + 1) 48 (Pt.cs ⟨[⟨tk [97], [tk [116]], false, false, e0⟩, ⟨tk [99], [tk [116]], false, false, e0⟩], 0, tk [98], false⟩ (some ⟨S + 1 + 1 + 1 + 1, 0, none⟩) 2)) _ _ _ _ ?_)
  rw [show ({ heap := W2.heap, tape := W2.tape, drawn := W2.drawn + 1, os := W2.os, output := W2.output } : World) = D0 from hD0.symm]
  clear hD0 bD pW2 mW2 bb hW2 hV4 bV4 bW2 sV4 hb1 hx hy
  replace hS := hide hS
  refine wpAnyC_reads 1 cD (by kernel_rfl) (by kernel_rfl) (by kernel_rfl) (fun d _ _ _ _ h => by cases d <;> exact h) (fun oi ho K hK => ?_)
  simp only [List.getElem?_toArray, List.getElem?_cons_succ, List.getElem?_cons_zero, Option.some.injEq] at ho
  subst ho
  rw [if_pos (by kernel_rfl)]
  refine ⟨Pt.v ⟨[⟨tk [97], [tk [116]], false, false, e0⟩, ⟨tk [99], [tk [116]], false, false, e0⟩], 0, tk [98], false⟩ (some ⟨S + 1 + 1 + 1 + 1, 0, none⟩) 2, fun w' hw' => ?_, hK _ ?_⟩
  · obtain ⟨h50, h51, h52, h53⟩ := Box.four hw'
    go_simp
  clear hK K
  have cB := hide (base_c D0)
  refine wpAnyC_calls 0 (by kernel_rfl) (fun oi ho K hK => ?_)
  simp only [List.getElem?_toArray, List.getElem?_cons_zero, Option.some.injEq] at ho
  subst ho
  go_simp
  refine (unhide cB).mono ?_
  rintro r U ⟨a, rfl, sU, bU⟩
  have cD := cD.on bU cD.lt
  replace hb := hide ((unhide hb).trans (bU.mono (unhide hb).size))
  have mP := hide ((unhide mP).on bU)
  have cP := hide (pattern12_c a 2 baseT ⟨[⟨tk [97], [tk [116]], false, false, e0⟩, ⟨tk [99], [tk [116]], false, false, e0⟩], 0, tk [98], false⟩ (some ⟨S + 1 + 1 + 1 + 1, 0, none⟩) 2 (by decide) U sU (unhide mP))
  rw [by_k20, show errO 0 = .nilIface from rfl] at cP
  clear sU bU cB
  go_simp
  refine hK _ _ cD ?_
  clear hK K
  refine wpAnyC_calls 2 (by kernel_rfl) (fun oi ho K hK => ?_)
  simp only [List.getElem?_toArray, List.getElem?_cons_succ, List.getElem?_cons_zero, Option.some.injEq] at ho
  subst ho
  go_simp
  refine (unhide cP).mono ?_
  rintro r G ⟨rfl, bG⟩
  have cD := cD.on bG cD.lt
  replace hb := hide ((unhide hb).trans (bG.mono (unhide hb).size))
  clear bG cP mP
  go_simp
  refine hK _ _ cD ?_
  clear hK K
  refine wpAnyC_reads 3 cD (by kernel_rfl) (by kernel_rfl) (by kernel_rfl) (fun d _ _ _ _ h => by cases d <;> exact h) (fun oi ho K hK => ?_)
  simp only [List.getElem?_toArray, List.getElem?_cons_succ, List.getElem?_cons_zero, Option.some.injEq] at ho
  subst ho
  rw [if_pos (by kernel_rfl)]
  refine ⟨.nilIface, fun w' hw' => ?_, hK _ ?_⟩
  · clear hw'
    go_simp
  clear hK K
  refine wpAnyC_done (by kernel_rfl) ?_ _
  go_wp2_with fail
  go_ret
  exact ⟨rfl, unhide hb⟩
theorem by_k21 : chkP baseT ⟨[⟨tk [97], [tk [117]], false, false, e0⟩, ⟨tk [99], [tk [116]], false, false, e0⟩], 0, tk [98], false⟩ = 13 := by decide +kernel
set_option maxRecDepth 100000 in
set_option maxHeartbeats 4000000 in
theorem by5_21 (n0 n1 : Int) (h0 : 0 ≤ n0) (h1 : n0 ≤ 255) (h2 : 0 ≤ n1) (h3 : n1 ≤ 255) (hm : n0 % 4 = 2) (hq : n1 % 3 = 1) (w : World) : Calls Try.prog 5 #[.int .u8 n0, .int .u8 n1] w fun e w' => e = .returned (.bool true) ∧ Below w.heap.size w w' := by
  have cK := hide (known6_c w)
  go_enter Try.func5, Try.ntmps5
  go_wp2_with fail
  refine (unhide cK).mono ?_
  rintro r w1 ⟨rfl, hb1⟩
  clear cK
  obtain ⟨S, hS⟩ : ∃ S, S = w1.heap.size := ⟨_, rfl⟩
  obtain ⟨V4, hV4⟩ : ∃ V4, V4 = (((w1.alloc (.cells #[.string ⟨#[116]⟩] 9)).alloc (.cells #[.string ⟨#[117]⟩] 9)).alloc (.cells #[.string ⟨#[116]⟩, .string ⟨#[117]⟩] 9)).alloc (.cells #[.string ⟨#[116]⟩] 9) := ⟨_, rfl⟩
  have bV4 : Below w1.heap.size w1 V4 := by rw [hV4]; exact ((((Below.refl _ _).alloc (Nat.le_refl _) _).alloc (by simp) _).alloc (by simp; omega) _).alloc (by simp; omega) _
  have sV4 : V4.heap.size = S + 1 + 1 + 1 + 1 := by rw [hV4, hS]; simp
  have t0 : Box V4 S 9 #[.string (tk [116]).1] := by rw [hV4, hS]; exact ((Box.new _ _ _).alloc _ |>.alloc _).alloc _
  have t1 : Box V4 (S + 1) 9 #[.string (tk [117]).1] := by
    have := Box.new (w1.alloc (.cells #[.string ⟨#[116]⟩] 9)) 9 #[.string ⟨#[117]⟩]
    simp only [World.size_alloc] at this
    rw [hV4, hS]; exact (this.alloc _).alloc _
  have t2 : Box V4 (S + 1 + 1) 9 #[.string (tk [116]).1, .string (tk [117]).1] := by
    have := Box.new ((w1.alloc (.cells #[.string ⟨#[116]⟩] 9)).alloc (.cells #[.string ⟨#[117]⟩] 9)) 9 #[.string ⟨#[116]⟩, .string ⟨#[117]⟩]
    simp only [World.size_alloc] at this
    rw [hV4, hS]; exact this.alloc _
  have t3 : Box V4 (S + 1 + 1 + 1) 9 #[.string (tk [116]).1] := by
    have := Box.new (((w1.alloc (.cells #[.string ⟨#[116]⟩] 9)).alloc (.cells #[.string ⟨#[117]⟩] 9)).alloc (.cells #[.string ⟨#[116]⟩, .string ⟨#[117]⟩] 9)) 9 #[.string ⟨#[116]⟩]
    simp only [World.size_alloc] at this
    rw [hV4, hS]; exact this
  obtain ⟨W2, hW2⟩ : ∃ W2, W2 = (V4.alloc (.cells (Em.cs ⟨tk [97], [tk [117]], false, false, e0⟩ ⟨some ⟨S + 1, 0, none⟩, 1, none, 0⟩ ++ Em.cs ⟨tk [99], [tk [116]], false, false, e0⟩ ⟨some ⟨S + 1 + 1 + 1, 0, none⟩, 1, none, 0⟩) 41)).alloc (.cells (Pt.cs ⟨[⟨tk [97], [tk [117]], false, false, e0⟩, ⟨tk [99], [tk [116]], false, false, e0⟩], 0, tk [98], false⟩ (some ⟨S + 1 + 1 + 1 + 1, 0, none⟩) 2) 48) := ⟨_, rfl⟩
  have bW2 : Below V4.heap.size V4 W2 := by rw [hW2]; exact ((Below.refl _ _).alloc (Nat.le_refl _) _).alloc (by simp) _
  have eW2 : Box W2 (S + 1 + 1 + 1 + 1) 41 (Em.cs ⟨tk [97], [tk [117]], false, false, e0⟩ ⟨some ⟨S + 1, 0, none⟩, 1, none, 0⟩ ++ Em.cs ⟨tk [99], [tk [116]], false, false, e0⟩ ⟨some ⟨S + 1 + 1 + 1, 0, none⟩, 1, none, 0⟩) := by rw [hW2, ← sV4]; exact (Box.new _ _ _).alloc _
  have pW2 : Box W2 (S + 1 + 1 + 1 + 1 + 1) 48 (Pt.cs ⟨[⟨tk [97], [tk [117]], false, false, e0⟩, ⟨tk [99], [tk [116]], false, false, e0⟩], 0, tk [98], false⟩ (some ⟨S + 1 + 1 + 1 + 1, 0, none⟩) 2) := by
    have := Box.new (V4.alloc (.cells (Em.cs ⟨tk [97], [tk [117]], false, false, e0⟩ ⟨some ⟨S + 1, 0, none⟩, 1, none, 0⟩ ++ Em.cs ⟨tk [99], [tk [116]], false, false, e0⟩ ⟨some ⟨S + 1 + 1 + 1, 0, none⟩, 1, none, 0⟩) 41)) 48 (Pt.cs ⟨[⟨tk [97], [tk [117]], false, false, e0⟩, ⟨tk [99], [tk [116]], false, false, e0⟩], 0, tk [98], false⟩ (some ⟨S + 1 + 1 + 1 + 1, 0, none⟩) 2)
    rw [World.size_alloc, sV4] at this
    rw [hW2]; exact this
  have mW2 := ems_two _ _ _ _ eW2 ⟨txts_one _ (t1.on bW2 (by omega)), .nil _⟩ ⟨txts_one _ (t3.on bW2 (by omega)), .nil _⟩
  have bb := hb1.trans ((bV4.trans (bW2.mono bV4.size)).mono hb1.size)
  clear eW2 t0 t1 t2 t3
  have hx := by_ix2
  have hy := by_iy1 w1.heap.size
  have hmx : Try.prog.follows .mixedOrders = true := by kernel_rfl
  go_upto_region 6 with fail
  rw [← hS, show ((((((w1.alloc (.cells #[.string ⟨#[116]⟩] 9)).alloc (.cells #[.string ⟨#[117]⟩] 9)).alloc (.cells #[.string ⟨#[116]⟩, .string ⟨#[117]⟩] 9)).alloc (.cells #[.string ⟨#[116]⟩] 9)).alloc (.cells #[.string ⟨#[97]⟩, .slice (some ⟨S + 1, 0, none⟩) 1 1, .bool false, .bool false, .int .i64 0, .int .i64 0, .int .i64 0, .string ⟨#[]⟩, .string ⟨#[]⟩, .string ⟨#[]⟩, .slice none 0 0, .string ⟨#[99]⟩, .slice (some ⟨S + 1 + 1 + 1, 0, none⟩) 1 1, .bool false, .bool false, .int .i64 0, .int .i64 0, .int .i64 0, .string ⟨#[]⟩, .string ⟨#[]⟩, .string ⟨#[]⟩, .slice none 0 0] 41)).alloc (.cells #[.slice (some ⟨S + 1 + 1 + 1 + 1, 0, none⟩) 2 2, .int .i64 0, .string ⟨#[98]⟩, .bool false] 48)) = W2 from by rw [hW2, hV4]; rfl]
  obtain ⟨D0, hD0⟩ : ∃ D0, D0 = W2.drew := ⟨_, rfl⟩
  have bD : Below W2.heap.size W2 D0 := by rw [hD0]; exact (Below.refl _ _).drew
  have cD : Box D0 (S + 1 + 1 + 1 + 1 + 1) 48 (Pt.cs ⟨[⟨tk [97], [tk [117]], false, false, e0⟩, ⟨tk [99], [tk [116]], false, false, e0⟩], 0, tk [98], false⟩ (some ⟨S + 1 + 1 + 1 + 1, 0, none⟩) 2) := pW2.on bD pW2.lt
  have mP := hide (mW2.on bD)
  have hb := hide (bb.trans (bD.mono bb.size))
  refine wp_region_any hmx (wpAny_of_C (C := fun w' => Box w' (S + 1 + 1 + 1 + 1 + 1) 48 (Pt.cs ⟨[⟨tk [97], [tk [117]], false, false, e0⟩, ⟨tk [99], [tk [116]], false, false, e0⟩], 0, tk [98], false⟩ (some ⟨S + 1 + 1 + 1 + 1, 0, none⟩) 2)) _ _ _ _ ?_)
  rw [show ({ heap := W2.heap, tape := W2.tape, drawn := W2.drawn + 1, os := W2.os, output := W2.output } : World) = D0 from hD0.symm]
  clear hD0 bD pW2 mW2 bb hW2 hV4 bV4 bW2 sV4 hb1 hx hy
  replace hS := hide hS
  refine wpAnyC_reads 1 cD (by kernel_rfl) (by kernel_rfl) (by kernel_rfl) (fun d _ _ _ _ h => by cases d <;> exact h) (fun oi ho K hK => ?_)
  simp only [List.getElem?_toArray, List.getElem?_cons_succ, List.getElem?_cons_zero, Option.some.injEq] at ho
  subst ho
  rw [if_pos (by kernel_rfl)]
  refine ⟨Pt.v ⟨[⟨tk [97], [tk [117]], false, false, e0⟩, ⟨tk [99], [tk [116]], false, false, e0⟩], 0, tk [98], false⟩ (some ⟨S + 1 + 1 + 1 + 1, 0, none⟩) 2, fun w' hw' => ?_, hK _ ?_⟩
  · obtain ⟨h50, h51, h52, h53⟩ := Box.four hw'
    go_simp
  clear hK K
  have cB := hide (base_c D0)
  refine wpAnyC_calls 0 (by kernel_rfl) (fun oi ho K hK => ?_)
  simp only [List.getElem?_toArray, List.getElem?_cons_zero, Option.some.injEq] at ho
  subst ho
  go_simp
  refine (unhide cB).mono ?_
  rintro r U ⟨a, rfl, sU, bU⟩
  have cD := cD.on bU cD.lt
  replace hb := hide ((unhide hb).trans (bU.mono (unhide hb).size))
  have mP := hide ((unhide mP).on bU)
  have cP := hide (pattern12_c a 2 baseT ⟨[⟨tk [97], [tk [117]], false, false, e0⟩, ⟨tk [99], [tk [116]], false, false, e0⟩], 0, tk [98], false⟩ (some ⟨S + 1 + 1 + 1 + 1, 0, none⟩) 2 (by decide) U sU (unhide mP))
  rw [by_k21, show errO 13 = errV 13 from rfl] at cP
  clear sU bU cB
  go_simp
  refine hK _ _ cD ?_
  clear hK K
  refine wpAnyC_calls 2 (by kernel_rfl) (fun oi ho K hK => ?_)
  simp only [List.getElem?_toArray, List.getElem?_cons_succ, List.getElem?_cons_zero, Option.some.injEq] at ho
  subst ho
  go_simp
  refine (unhide cP).mono ?_
  rintro r G ⟨rfl, bG⟩
  have cD := cD.on bG cD.lt
  replace hb := hide ((unhide hb).trans (bG.mono (unhide hb).size))
  clear bG cP mP
  go_simp
  refine hK _ _ cD ?_
  clear hK K
  refine wpAnyC_reads 3 cD (by kernel_rfl) (by kernel_rfl) (by kernel_rfl) (fun d _ _ _ _ h => by cases d <;> exact h) (fun oi ho K hK => ?_)
  simp only [List.getElem?_toArray, List.getElem?_cons_succ, List.getElem?_cons_zero, Option.some.injEq] at ho
  subst ho
  rw [if_pos (by kernel_rfl)]
  refine ⟨errV 13, fun w' hw' => ?_, hK _ ?_⟩
  · clear hw'
    go_simp
  clear hK K
  refine wpAnyC_done (by kernel_rfl) ?_ _
  go_wp2_with fail
  refine (errIs_same 13 G).mono ?_
  rintro r w9 ⟨rfl, rfl⟩
  go_wp2_with fail
  go_ret
  exact ⟨rfl, unhide hb⟩
theorem by_k22 : chkP baseT ⟨[⟨tk [97], [tk [116], tk [117]], false, false, e0⟩, ⟨tk [99], [tk [116]], false, false, e0⟩], 0, tk [98], false⟩ = 13 := by decide +kernel
set_option maxRecDepth 100000 in
set_option maxHeartbeats 4000000 in
theorem by5_22 (n0 n1 : Int) (h0 : 0 ≤ n0) (h1 : n0 ≤ 255) (h2 : 0 ≤ n1) (h3 : n1 ≤ 255) (hm : n0 % 4 = 2) (hq : n1 % 3 = 2) (w : World) : Calls Try.prog 5 #[.int .u8 n0, .int .u8 n1] w fun e w' => e = .returned (.bool true) ∧ Below w.heap.size w w' := by
  have cK := hide (known6_c w)
  go_enter Try.func5, Try.ntmps5
  go_wp2_with fail
  refine (unhide cK).mono ?_
  rintro r w1 ⟨rfl, hb1⟩
  clear cK
  obtain ⟨S, hS⟩ : ∃ S, S = w1.heap.size := ⟨_, rfl⟩
  obtain ⟨V4, hV4⟩ : ∃ V4, V4 = (((w1.alloc (.cells #[.string ⟨#[116]⟩] 9)).alloc (.cells #[.string ⟨#[117]⟩] 9)).alloc (.cells #[.string ⟨#[116]⟩, .string ⟨#[117]⟩] 9)).alloc (.cells #[.string ⟨#[116]⟩] 9) := ⟨_, rfl⟩
  have bV4 : Below w1.heap.size w1 V4 := by rw [hV4]; exact ((((Below.refl _ _).alloc (Nat.le_refl _) _).alloc (by simp) _).alloc (by simp; omega) _).alloc (by simp; omega) _
  have sV4 : V4.heap.size = S + 1 + 1 + 1 + 1 := by rw [hV4, hS]; simp
  have t0 : Box V4 S 9 #[.string (tk [116]).1] := by rw [hV4, hS]; exact ((Box.new _ _ _).alloc _ |>.alloc _).alloc _
  have t1 : Box V4 (S + 1) 9 #[.string (tk [117]).1] := by
    have := Box.new (w1.alloc (.cells #[.string ⟨#[116]⟩] 9)) 9 #[.string ⟨#[117]⟩]
    simp only [World.size_alloc] at this
    rw [hV4, hS]; exact (this.alloc _).alloc _
  have t2 : Box V4 (S + 1 + 1) 9 #[.string (tk [116]).1, .string (tk [117]).1] := by
    have := Box.new ((w1.alloc (.cells #[.string ⟨#[116]⟩] 9)).alloc (.cells #[.string ⟨#[117]⟩] 9)) 9 #[.string ⟨#[116]⟩, .string ⟨#[117]⟩]
    simp only [World.size_alloc] at this
    rw [hV4, hS]; exact this.alloc _
  have t3 : Box V4 (S + 1 + 1 + 1) 9 #[.string (tk [116]).1] := by
    have := Box.new (((w1.alloc (.cells #[.string ⟨#[116]⟩] 9)).alloc (.cells #[.string ⟨#[117]⟩] 9)).alloc (.cells #[.string ⟨#[116]⟩, .string ⟨#[117]⟩] 9)) 9 #[.string ⟨#[116]⟩]
    simp only [World.size_alloc] at this
    rw [hV4, hS]; exact this
  obtain ⟨W2, hW2⟩ : ∃ W2, W2 = (V4.alloc (.cells (Em.cs ⟨tk [97], [tk [116], tk [117]], false, false, e0⟩ ⟨some ⟨S + 1 + 1, 0, none⟩, 2, none, 0⟩ ++ Em.cs ⟨tk [99], [tk [116]], false, false, e0⟩ ⟨some ⟨S + 1 + 1 + 1, 0, none⟩, 1, none, 0⟩) 41)).alloc (.cells (Pt.cs ⟨[⟨tk [97], [tk [116], tk [117]], false, false, e0⟩, ⟨tk [99], [tk [116]], false, false, e0⟩], 0, tk [98], false⟩ (some ⟨S + 1 + 1 + 1 + 1, 0, none⟩) 2) 48) := ⟨_, rfl⟩
  have bW2 : Below V4.heap.size V4 W2 := by rw [hW2]; exact ((Below.refl _ _).alloc (Nat.le_refl _) _).alloc (by simp) _
  have eW2 : Box W2 (S + 1 + 1 + 1 + 1) 41 (Em.cs ⟨tk [97], [tk [116], tk [117]], false, false, e0⟩ ⟨some ⟨S + 1 + 1, 0, none⟩, 2, none, 0⟩ ++ Em.cs ⟨tk [99], [tk [116]], false, false, e0⟩ ⟨some ⟨S + 1 + 1 + 1, 0, none⟩, 1, none, 0⟩) := by rw [hW2, ← sV4]; exact (Box.new _ _ _).alloc _
  have pW2 : Box W2 (S + 1 + 1 + 1 + 1 + 1) 48 (Pt.cs ⟨[⟨tk [97], [tk [116], tk [117]], false, false, e0⟩, ⟨tk [99], [tk [116]], false, false, e0⟩], 0, tk [98], false⟩ (some ⟨S + 1 + 1 + 1 + 1, 0, none⟩) 2) := by
    have := Box.new (V4.alloc (.cells (Em.cs ⟨tk [97], [tk [116], tk [117]], false, false, e0⟩ ⟨some ⟨S + 1 + 1, 0, none⟩, 2, none, 0⟩ ++ Em.cs ⟨tk [99], [tk [116]], false, false, e0⟩ ⟨some ⟨S + 1 + 1 + 1, 0, none⟩, 1, none, 0⟩) 41)) 48 (Pt.cs ⟨[⟨tk [97], [tk [116], tk [117]], false, false, e0⟩, ⟨tk [99], [tk [116]], false, false, e0⟩], 0, tk [98], false⟩ (some ⟨S + 1 + 1 + 1 + 1, 0, none⟩) 2)
    rw [World.size_alloc, sV4] at this
    rw [hW2]; exact this
  have mW2 := ems_two _ _ _ _ eW2 ⟨txts_two _ _ (t2.on bW2 (by omega)), .nil _⟩ ⟨txts_one _ (t3.on bW2 (by omega)), .nil _⟩
  have bb := hb1.trans ((bV4.trans (bW2.mono bV4.size)).mono hb1.size)
  clear eW2 t0 t1 t2 t3
  have hx := by_ix2
  have hy := by_iy2 w1.heap.size
  have hmx : Try.prog.follows .mixedOrders = true := by kernel_rfl
  go_upto_region 6 with fail
  rw [← hS, show ((((((w1.alloc (.cells #[.string ⟨#[116]⟩] 9)).alloc (.cells #[.string ⟨#[117]⟩] 9)).alloc (.cells #[.string ⟨#[116]⟩, .string ⟨#[117]⟩] 9)).alloc (.cells #[.string ⟨#[116]⟩] 9)).alloc (.cells #[.string ⟨#[97]⟩, .slice (some ⟨S + 1 + 1, 0, none⟩) 2 2, .bool false, .bool false, .int .i64 0, .int .i64 0, .int .i64 0, .string ⟨#[]⟩, .string ⟨#[]⟩, .string ⟨#[]⟩, .slice none 0 0, .string ⟨#[99]⟩, .slice (some ⟨S + 1 + 1 + 1, 0, none⟩) 1 1, .bool false, .bool false, .int .i64 0, .int .i64 0, .int .i64 0, .string ⟨#[]⟩, .string ⟨#[]⟩, .string ⟨#[]⟩, .slice none 0 0] 41)).alloc (.cells #[.slice (some ⟨S + 1 + 1 + 1 + 1, 0, none⟩) 2 2, .int .i64 0, .string ⟨#[98]⟩, .bool false] 48)) = W2 from by rw [hW2, hV4]; rfl]
  obtain ⟨D0, hD0⟩ : ∃ D0, D0 = W2.drew := ⟨_, rfl⟩
  have bD : Below W2.heap.size W2 D0 := by rw [hD0]; exact (Below.refl _ _).drew
  have cD : Box D0 (S + 1 + 1 + 1 + 1 + 1) 48 (Pt.cs ⟨[⟨tk [97], [tk [116], tk [117]], false, false, e0⟩, ⟨tk [99], [tk [116]], false, false, e0⟩], 0, tk [98], false⟩ (some ⟨S + 1 + 1 + 1 + 1, 0, none⟩) 2) := pW2.on bD pW2.lt
  have mP := hide (mW2.on bD)
  have hb := hide (bb.trans (bD.mono bb.size))
  refine wp_region_any hmx (wpAny_of_C (C := fun w' => Box w' (S + 1 + 1 + 1 + 1 + 1) 48 (Pt.cs ⟨[⟨tk [97], [tk [116], tk [117]], false, false, e0⟩, ⟨tk [99], [tk [116]], false, false, e0⟩], 0, tk [98], false⟩ (some ⟨S + 1 + 1 + 1 + 1, 0, none⟩) 2)) _ _ _ _ ?_)
  rw [show ({ heap := W2.heap, tape := W2.tape, drawn := W2.drawn + 1, os := W2.os, output := W2.output } : World) = D0 from hD0.symm]
  clear hD0 bD pW2 mW2 bb hW2 hV4 bV4 bW2 sV4 hb1 hx hy
  replace hS := hide hS
  refine wpAnyC_reads 1 cD (by kernel_rfl) (by kernel_rfl) (by kernel_rfl) (fun d _ _ _ _ h => by cases d <;> exact h) (fun oi ho K hK => ?_)
  simp only [List.getElem?_toArray, List.getElem?_cons_succ, List.getElem?_cons_zero, Option.some.injEq] at ho
  subst ho
  rw [if_pos (by kernel_rfl)]
  refine ⟨Pt.v ⟨[⟨tk [97], [tk [116], tk [117]], false, false, e0⟩, ⟨tk [99], [tk [116]], false, false, e0⟩], 0, tk [98], false⟩ (some ⟨S + 1 + 1 + 1 + 1, 0, none⟩) 2, fun w' hw' => ?_, hK _ ?_⟩
  · obtain ⟨h50, h51, h52, h53⟩ := Box.four hw'
    go_simp
  clear hK K
  have cB := hide (base_c D0)
  refine wpAnyC_calls 0 (by kernel_rfl) (fun oi ho K hK => ?_)
  simp only [List.getElem?_toArray, List.getElem?_cons_zero, Option.some.injEq] at ho
  subst ho
  go_simp
  refine (unhide cB).mono ?_
  rintro r U ⟨a, rfl, sU, bU⟩
  have cD := cD.on bU cD.lt
  replace hb := hide ((unhide hb).trans (bU.mono (unhide hb).size))
  have mP := hide ((unhide mP).on bU)
  have cP := hide (pattern12_c a 2 baseT ⟨[⟨tk [97], [tk [116], tk [117]], false, false, e0⟩, ⟨tk [99], [tk [116]], false, false, e0⟩], 0, tk [98], false⟩ (some ⟨S + 1 + 1 + 1 + 1, 0, none⟩) 2 (by decide) U sU (unhide mP))
  rw [by_k22, show errO 13 = errV 13 from rfl] at cP
  clear sU bU cB
  go_simp
  refine hK _ _ cD ?_
  clear hK K
  refine wpAnyC_calls 2 (by kernel_rfl) (fun oi ho K hK => ?_)
  simp only [List.getElem?_toArray, List.getElem?_cons_succ, List.getElem?_cons_zero, Option.some.injEq] at ho
  subst ho
  go_simp
  refine (unhide cP).mono ?_
  rintro r G ⟨rfl, bG⟩
  have cD := cD.on bG cD.lt
  replace hb := hide ((unhide hb).trans (bG.mono (unhide hb).size))
  clear bG cP mP
  go_simp
  refine hK _ _ cD ?_
  clear hK K
  refine wpAnyC_reads 3 cD (by kernel_rfl) (by kernel_rfl) (by kernel_rfl) (fun d _ _ _ _ h => by cases d <;> exact h) (fun oi ho K hK => ?_)
  simp only [List.getElem?_toArray, List.getElem?_cons_succ, List.getElem?_cons_zero, Option.some.injEq] at ho
  subst ho
  rw [if_pos (by kernel_rfl)]
  refine ⟨errV 13, fun w' hw' => ?_, hK _ ?_⟩
  · clear hw'
    go_simp
  clear hK K
  refine wpAnyC_done (by kernel_rfl) ?_ _
  go_wp2_with fail
  refine (errIs_same 13 G).mono ?_
  rintro r w9 ⟨rfl, rfl⟩
  go_wp2_with fail
  go_ret
  exact ⟨rfl, unhide hb⟩
theorem by_k30 : chkP baseT ⟨[⟨tk [97], [tk [116]], false, false, e0⟩, ⟨tk [99], [tk [116]], false, false, e0⟩], 0, tk [122], false⟩ = 13 := by decide +kernel
set_option maxRecDepth 100000 in
set_option maxHeartbeats 4000000 in
theorem by5_30 (n0 n1 : Int) (h0 : 0 ≤ n0) (h1 : n0 ≤ 255) (h2 : 0 ≤ n1) (h3 : n1 ≤ 255) (hm : n0 % 4 = 3) (hq : n1 % 3 = 0) (w : World) : Calls Try.prog 5 #[.int .u8 n0, .int .u8 n1] w fun e w' => e = .returned (.bool true) ∧ Below w.heap.size w w' := by
  have cK := hide (known6_c w)
  go_enter Try.func5, Try.ntmps5
  go_wp2_with fail
  refine (unhide cK).mono ?_
  rintro r w1 ⟨rfl, hb1⟩
  clear cK
  obtain ⟨S, hS⟩ : ∃ S, S = w1.heap.size := ⟨_, rfl⟩
  obtain ⟨V4, hV4⟩ : ∃ V4, V4 = (((w1.alloc (.cells #[.string ⟨#[116]⟩] 9)).alloc (.cells #[.string ⟨#[117]⟩] 9)).alloc (.cells #[.string ⟨#[116]⟩, .string ⟨#[117]⟩] 9)).alloc (.cells #[.string ⟨#[116]⟩] 9) := ⟨_, rfl⟩
  have bV4 : Below w1.heap.size w1 V4 := by rw [hV4]; exact ((((Below.refl _ _).alloc (Nat.le_refl _) _).alloc (by simp) _).alloc (by simp; omega) _).alloc (by simp; omega) _
  have sV4 : V4.heap.size = S + 1 + 1 + 1 + 1 := by rw [hV4, hS]; simp
  have t0 : Box V4 S 9 #[.string (tk [116]).1] := by rw [hV4, hS]; exact ((Box.new _ _ _).alloc _ |>.alloc _).alloc _
  have t1 : Box V4 (S + 1) 9 #[.string (tk [117]).1] := by
    have := Box.new (w1.alloc (.cells #[.string ⟨#[116]⟩] 9)) 9 #[.string ⟨#[117]⟩]
    simp only [World.size_alloc] at this
    rw [hV4, hS]; exact (this.alloc _).alloc _
  have t2 : Box V4 (S + 1 + 1) 9 #[.string (tk [116]).1, .string (tk [117]).1] := by
    have := Box.new ((w1.alloc (.cells #[.string ⟨#[116]⟩] 9)).alloc (.cells #[.string ⟨#[117]⟩] 9)) 9 #[.string ⟨#[116]⟩, .string ⟨#[117]⟩]
    simp only [World.size_alloc] at this
    rw [hV4, hS]; exact this.alloc _
  have t3 : Box V4 (S + 1 + 1 + 1) 9 #[.string (tk [116]).1] := by
    have := Box.new (((w1.alloc (.cells #[.string ⟨#[116]⟩] 9)).alloc (.cells #[.string ⟨#[117]⟩] 9)).alloc (.cells #[.string ⟨#[116]⟩, .string ⟨#[117]⟩] 9)) 9 #[.string ⟨#[116]⟩]
    simp only [World.size_alloc] at this
    rw [hV4, hS]; exact this
  obtain ⟨W2, hW2⟩ : ∃ W2, W2 = (V4.alloc (.cells (Em.cs ⟨tk [97], [tk [116]], false, false, e0⟩ ⟨some ⟨S, 0, none⟩, 1, none, 0⟩ ++ Em.cs ⟨tk [99], [tk [116]], false, false, e0⟩ ⟨some ⟨S + 1 + 1 + 1, 0, none⟩, 1, none, 0⟩) 41)).alloc (.cells (Pt.cs ⟨[⟨tk [97], [tk [116]], false, false, e0⟩, ⟨tk [99], [tk [116]], false, false, e0⟩], 0, tk [122], false⟩ (some ⟨S + 1 + 1 + 1 + 1, 0, none⟩) 2) 48) := ⟨_, rfl⟩
  have bW2 : Below V4.heap.size V4 W2 := by rw [hW2]; exact ((Below.refl _ _).alloc (Nat.le_refl _) _).alloc (by simp) _
  have eW2 : Box W2 (S + 1 + 1 + 1 + 1) 41 (Em.cs ⟨tk [97], [tk [116]], false, false, e0⟩ ⟨some ⟨S, 0, none⟩, 1, none, 0⟩ ++ Em.cs ⟨tk [99], [tk [116]], false, false, e0⟩ ⟨some ⟨S + 1 + 1 + 1, 0, none⟩, 1, none, 0⟩) := by rw [hW2, ← sV4]; exact (Box.new _ _ _).alloc _
  have pW2 : Box W2 (S + 1 + 1 + 1 + 1 + 1) 48 (Pt.cs ⟨[⟨tk [97], [tk [116]], false, false, e0⟩, ⟨tk [99], [tk [116]], false, false, e0⟩], 0, tk [122], false⟩ (some ⟨S + 1 + 1 + 1 + 1, 0, none⟩) 2) := by
    have := Box.new (V4.alloc (.cells (Em.cs ⟨tk [97], [tk [116]], false, false, e0⟩ ⟨some ⟨S, 0, none⟩, 1, none, 0⟩ ++ Em.cs ⟨tk [99], [tk [116]], false, false, e0⟩ ⟨some ⟨S + 1 + 1 + 1, 0, none⟩, 1, none, 0⟩) 41)) 48 (Pt.cs ⟨[⟨tk [97], [tk [116]], false, false, e0⟩, ⟨tk [99], [tk [116]], false, false, e0⟩], 0, tk [122], false⟩ (some ⟨S + 1 + 1 + 1 + 1, 0, none⟩) 2)
    rw [World.size_alloc, sV4] at this
    rw [hW2]; exact this
  have mW2 := ems_two _ _ _ _ eW2 ⟨txts_one _ (t0.on bW2 (by omega)), .nil _⟩ ⟨txts_one _ (t3.on bW2 (by omega)), .nil _⟩
  have bb := hb1.trans ((bV4.trans (bW2.mono bV4.size)).mono hb1.size)
  clear eW2 t0 t1 t2 t3
  have hx := by_ix3
  have hy := by_iy0 w1.heap.size
  have hmx : Try.prog.follows .mixedOrders = true := by kernel_rfl
  go_upto_region 6 with fail
  rw [← hS, show ((((((w1.alloc (.cells #[.string ⟨#[116]⟩] 9)).alloc (.cells #[.string ⟨#[117]⟩] 9)).alloc (.cells #[.string ⟨#[116]⟩, .string ⟨#[117]⟩] 9)).alloc (.cells #[.string ⟨#[116]⟩] 9)).alloc (.cells #[.string ⟨#[97]⟩, .slice (some ⟨S, 0, none⟩) 1 1, .bool false, .bool false, .int .i64 0, .int .i64 0, .int .i64 0, .string ⟨#[]⟩, .string ⟨#[]⟩, .string ⟨#[]⟩, .slice none 0 0, .string ⟨#[99]⟩, .slice (some ⟨S + 1 + 1 + 1, 0, none⟩) 1 1, .bool false, .bool false, .int .i64 0, .int .i64 0, .int .i64 0, .string ⟨#[]⟩, .string ⟨#[]⟩, .string ⟨#[]⟩, .slice none 0 0] 41)).alloc (.cells #[.slice (some ⟨S + 1 + 1 + 1 + 1, 0, none⟩) 2 2, .int .i64 0, .string ⟨#[122]⟩, .bool false] 48)) = W2 from by rw [hW2, hV4]; rfl]
  obtain ⟨D0, hD0⟩ : ∃ D0, D0 = W2.drew := ⟨_, rfl⟩
  have bD : Below W2.heap.size W2 D0 := by rw [hD0]; exact (Below.refl _ _).drew
  have cD : Box D0 (S + 1 + 1 + 1 + 1 + 1) 48 (Pt.cs ⟨[⟨tk [97], [tk [116]], false, false, e0⟩, ⟨tk [99], [tk [116]], false, false, e0⟩], 0, tk [122], false⟩ (some ⟨S + 1 + 1 + 1 + 1, 0, none⟩) 2) := pW2.on bD pW2.lt
  have mP := hide (mW2.on bD)
  have hb := hide (bb.trans (bD.mono bb.size))
  refine wp_region_any hmx (wpAny_of_C (C := fun w' => Box w' (S + 1 + 1 + 1 + 1 + 1) 48 (Pt.cs ⟨[⟨tk [97], [tk [116]], false, false, e0⟩, ⟨tk [99], [tk [116]], false, false, e0⟩], 0, tk [122], false⟩ (some ⟨S + 1 + 1 + 1 + 1, 0, none⟩) 2)) _ _ _ _ ?_)
  rw [show ({ heap := W2.heap, tape := W2.tape, drawn := W2.drawn + 1, os := W2.os, output := W2.output } : World) = D0 from hD0.symm]
  clear hD0 bD pW2 mW2 bb hW2 hV4 bV4 bW2 sV4 hb1 hx hy
  replace hS := hide hS
  refine wpAnyC_reads 1 cD (by kernel_rfl) (by kernel_rfl) (by kernel_rfl) (fun d _ _ _ _ h => by cases d <;> exact h) (fun oi ho K hK => ?_)
  simp only [List.getElem?_toArray, List.getElem?_cons_succ, List.getElem?_cons_zero, Option.some.injEq] at ho
  subst ho
  rw [if_pos (by kernel_rfl)]
  refine ⟨Pt.v ⟨[⟨tk [97], [tk [116]], false, false, e0⟩, ⟨tk [99], [tk [116]], false, false, e0⟩], 0, tk [122], false⟩ (some ⟨S + 1 + 1 + 1 + 1, 0, none⟩) 2, fun w' hw' => ?_, hK _ ?_⟩
  · obtain ⟨h50, h51, h52, h53⟩ := Box.four hw'
    go_simp
  clear hK K
  have cB := hide (base_c D0)
  refine wpAnyC_calls 0 (by kernel_rfl) (fun oi ho K hK => ?_)
  simp only [List.getElem?_toArray, List.getElem?_cons_zero, Option.some.injEq] at ho
  subst ho
  go_simp
  refine (unhide cB).mono ?_
  rintro r U ⟨a, rfl, sU, bU⟩
  have cD := cD.on bU cD.lt
  replace hb := hide ((unhide hb).trans (bU.mono (unhide hb).size))
  have mP := hide ((unhide mP).on bU)
  have cP := hide (pattern12_c a 2 baseT ⟨[⟨tk [97], [tk [116]], false, false, e0⟩, ⟨tk [99], [tk [116]], false, false, e0⟩], 0, tk [122], false⟩ (some ⟨S + 1 + 1 + 1 + 1, 0, none⟩) 2 (by decide) U sU (unhide mP))
  rw [by_k30, show errO 13 = errV 13 from rfl] at cP
  clear sU bU cB
  go_simp
  refine hK _ _ cD ?_
  clear hK K
  refine wpAnyC_calls 2 (by kernel_rfl) (fun oi ho K hK => ?_)
  simp only [List.getElem?_toArray, List.getElem?_cons_succ, List.getElem?_cons_zero, Option.some.injEq] at ho
  subst ho
  go_simp
  refine (unhide cP).mono ?_
  rintro r G ⟨rfl, bG⟩
  have cD := cD.on bG cD.lt
  replace hb := hide ((unhide hb).trans (bG.mono (unhide hb).size))
  clear bG cP mP
  go_simp
  refine hK _ _ cD ?_
  clear hK K
  refine wpAnyC_reads 3 cD (by kernel_rfl) (by kernel_rfl) (by kernel_rfl) (fun d _ _ _ _ h => by cases d <;> exact h) (fun oi ho K hK => ?_)
  simp only [List.getElem?_toArray, List.getElem?_cons_succ, List.getElem?_cons_zero, Option.some.injEq] at ho
  subst ho
  rw [if_pos (by kernel_rfl)]
  refine ⟨errV 13, fun w' hw' => ?_, hK _ ?_⟩
  · clear hw'
    go_simp
  clear hK K
  refine wpAnyC_done (by kernel_rfl) ?_ _
  go_wp2_with fail
  refine (errIs_same 13 G).mono ?_
  rintro r w9 ⟨rfl, rfl⟩
  go_wp2_with fail
  go_ret
  exact ⟨rfl, unhide hb⟩
theorem by_k31 : chkP baseT ⟨[⟨tk [97], [tk [117]], false, false, e0⟩, ⟨tk [99], [tk [116]], false, false, e0⟩], 0, tk [122], false⟩ = 13 := by decide +kernel
set_option maxRecDepth 100000 in
set_option maxHeartbeats 4000000 in
theorem by5_31 (n0 n1 : Int) (h0 : 0 ≤ n0) (h1 : n0 ≤ 255) (h2 : 0 ≤ n1) (h3 : n1 ≤ 255) (hm : n0 % 4 = 3) (hq : n1 % 3 = 1) (w : World) : Calls Try.prog 5 #[.int .u8 n0, .int .u8 n1] w fun e w' => e = .returned (.bool true) ∧ Below w.heap.size w w' := by
  have cK := hide (known6_c w)
  go_enter Try.func5, Try.ntmps5
  go_wp2_with fail
  refine (unhide cK).mono ?_
  rintro r w1 ⟨rfl, hb1⟩
  clear cK
  obtain ⟨S, hS⟩ : ∃ S, S = w1.heap.size := ⟨_, rfl⟩
  obtain ⟨V4, hV4⟩ : ∃ V4, V4 = (((w1.alloc (.cells #[.string ⟨#[116]⟩] 9)).alloc (.cells #[.string ⟨#[117]⟩] 9)).alloc (.cells #[.string ⟨#[116]⟩, .string ⟨#[117]⟩] 9)).alloc (.cells #[.string ⟨#[116]⟩] 9) := ⟨_, rfl⟩
  have bV4 : Below w1.heap.size w1 V4 := by rw [hV4]; exact ((((Below.refl _ _).alloc (Nat.le_refl _) _).alloc (by simp) _).alloc (by simp; omega) _).alloc (by simp; omega) _
  have sV4 : V4.heap.size = S + 1 + 1 + 1 + 1 := by rw [hV4, hS]; simp
  have t0 : Box V4 S 9 #[.string (tk [116]).1] := by rw [hV4, hS]; exact ((Box.new _ _ _).alloc _ |>.alloc _).alloc _
  have t1 : Box V4 (S + 1) 9 #[.string (tk [117]).1] := by
    have := Box.new (w1.alloc (.cells #[.string ⟨#[116]⟩] 9)) 9 #[.string ⟨#[117]⟩]
    simp only [World.size_alloc] at this
    rw [hV4, hS]; exact (this.alloc _).alloc _
  have t2 : Box V4 (S + 1 + 1) 9 #[.string (tk [116]).1, .string (tk [117]).1] := by
    have := Box.new ((w1.alloc (.cells #[.string ⟨#[116]⟩] 9)).alloc (.cells #[.string ⟨#[117]⟩] 9)) 9 #[.string ⟨#[116]⟩, .string ⟨#[117]⟩]
    simp only [World.size_alloc] at this
    rw [hV4, hS]; exact this.alloc _
  have t3 : Box V4 (S + 1 + 1 + 1) 9 #[.string (tk [116]).1] := by
    have := Box.new (((w1.alloc (.cells #[.string ⟨#[116]⟩] 9)).alloc (.cells #[.string ⟨#[117]⟩] 9)).alloc (.cells #[.string ⟨#[116]⟩, .string ⟨#[117]⟩] 9)) 9 #[.string ⟨#[116]⟩]
    simp only [World.size_alloc] at this
    rw [hV4, hS]; exact this
  obtain ⟨W2, hW2⟩ : ∃ W2, W2 = (V4.alloc (.cells (Em.cs ⟨tk [97], [tk [117]], false, false, e0⟩ ⟨some ⟨S + 1, 0, none⟩, 1, none, 0⟩ ++ Em.cs ⟨tk [99], [tk [116]], false, false, e0⟩ ⟨some ⟨S + 1 + 1 + 1, 0, none⟩, 1, none, 0⟩) 41)).alloc (.cells (Pt.cs ⟨[⟨tk [97], [tk [117]], false, false, e0⟩, ⟨tk [99], [tk [116]], false, false, e0⟩], 0, tk [122], false⟩ (some ⟨S + 1 + 1 + 1 + 1, 0, none⟩) 2) 48) := ⟨_, rfl⟩
  have bW2 : Below V4.heap.size V4 W2 := by rw [hW2]; exact ((Below.refl _ _).alloc (Nat.le_refl _) _).alloc (by simp) _
  have eW2 : Box W2 (S + 1 + 1 + 1 + 1) 41 (Em.cs ⟨tk [97], [tk [117]], false, false, e0⟩ ⟨some ⟨S + 1, 0, none⟩, 1, none, 0⟩ ++ Em.cs ⟨tk [99], [tk [116]], false, false, e0⟩ ⟨some ⟨S + 1 + 1 + 1, 0, none⟩, 1, none, 0⟩) := by rw [hW2, ← sV4]; exact (Box.new _ _ _).alloc _
  have pW2 : Box W2 (S + 1 + 1 + 1 + 1 + 1) 48 (Pt.cs ⟨[⟨tk [97], [tk [117]], false, false, e0⟩, ⟨tk [99], [tk [116]], false, false, e0⟩], 0, tk [122], false⟩ (some ⟨S + 1 + 1 + 1 + 1, 0, none⟩) 2) := by
    have := Box.new (V4.alloc (.cells (Em.cs ⟨tk [97], [tk [117]], false, false, e0⟩ ⟨some ⟨S + 1, 0, none⟩, 1, none, 0⟩ ++ Em.cs ⟨tk [99], [tk [116]], false, false, e0⟩ ⟨some ⟨S + 1 + 1 + 1, 0, none⟩, 1, none, 0⟩) 41)) 48 (Pt.cs ⟨[⟨tk [97], [tk [117]], false, false, e0⟩, ⟨tk [99], [tk [116]], false, false, e0⟩], 0, tk [122], false⟩ (some ⟨S + 1 + 1 + 1 + 1, 0, none⟩) 2)
    rw [World.size_alloc, sV4] at this
    rw [hW2]; exact this
  have mW2 := ems_two _ _ _ _ eW2 ⟨txts_one _ (t1.on bW2 (by omega)), .nil _⟩ ⟨txts_one _ (t3.on bW2 (by omega)), .nil _⟩
  have bb := hb1.trans ((bV4.trans (bW2.mono bV4.size)).mono hb1.size)
  clear eW2 t0 t1 t2 t3
  have hx := by_ix3
  have hy := by_iy1 w1.heap.size
  have hmx : Try.prog.follows .mixedOrders = true := by kernel_rfl
  go_upto_region 6 with fail
  rw [← hS, show ((((((w1.alloc (.cells #[.string ⟨#[116]⟩] 9)).alloc (.cells #[.string ⟨#[117]⟩] 9)).alloc (.cells #[.string ⟨#[116]⟩, .string ⟨#[117]⟩] 9)).alloc (.cells #[.string ⟨#[116]⟩] 9)).alloc (.cells #[.string ⟨#[97]⟩, .slice (some ⟨S + 1, 0, none⟩) 1 1, .bool false, .bool false, .int .i64 0, .int .i64 0, .int .i64 0, .string ⟨#[]⟩, .string ⟨#[]⟩, .string ⟨#[]⟩, .slice none 0 0, .string ⟨#[99]⟩, .slice (some ⟨S + 1 + 1 + 1, 0, none⟩) 1 1, .bool false, .bool false, .int .i64 0, .int .i64 0, .int .i64 0, .string ⟨#[]⟩, .string ⟨#[]⟩, .string ⟨#[]⟩, .slice none 0 0] 41)).alloc (.cells #[.slice (some ⟨S + 1 + 1 + 1 + 1, 0, none⟩) 2 2, .int .i64 0, .string ⟨#[122]⟩, .bool false] 48)) = W2 from by rw [hW2, hV4]; rfl]
  obtain ⟨D0, hD0⟩ : ∃ D0, D0 = W2.drew := ⟨_, rfl⟩
  have bD : Below W2.heap.size W2 D0 := by rw [hD0]; exact (Below.refl _ _).drew
  have cD : Box D0 (S + 1 + 1 + 1 + 1 + 1) 48 (Pt.cs ⟨[⟨tk [97], [tk [117]], false, false, e0⟩, ⟨tk [99], [tk [116]], false, false, e0⟩], 0, tk [122], false⟩ (some ⟨S + 1 + 1 + 1 + 1, 0, none⟩) 2) := pW2.on bD pW2.lt
  have mP := hide (mW2.on bD)
  have hb := hide (bb.trans (bD.mono bb.size))
  refine wp_region_any hmx (wpAny_of_C (C := fun w' => Box w' (S + 1 + 1 + 1 + 1 + 1) 48 (Pt.cs ⟨[⟨tk [97], [tk [117]], false, false, e0⟩, ⟨tk [99], [tk [116]], false, false, e0⟩], 0, tk [122], false⟩ (some ⟨S + 1 + 1 + 1 + 1, 0, none⟩) 2)) _ _ _ _ ?_)
  rw [show ({ heap := W2.heap, tape := W2.tape, drawn := W2.drawn + 1, os := W2.os, output := W2.output } : World) = D0 from hD0.symm]
  clear hD0 bD pW2 mW2 bb hW2 hV4 bV4 bW2 sV4 hb1 hx hy
  replace hS := hide hS
  refine wpAnyC_reads 1 cD (by kernel_rfl) (by kernel_rfl) (by kernel_rfl) (fun d _ _ _ _ h => by cases d <;> exact h) (fun oi ho K hK => ?_)
  simp only [List.getElem?_toArray, List.getElem?_cons_succ, List.getElem?_cons_zero, Option.some.injEq] at ho
  subst ho
  rw [if_pos (by kernel_rfl)]
  refine ⟨Pt.v ⟨[⟨tk [97], [tk [117]], false, false, e0⟩, ⟨tk [99], [tk [116]], false, false, e0⟩], 0, tk [122], false⟩ (some ⟨S + 1 + 1 + 1 + 1, 0, none⟩) 2, fun w' hw' => ?_, hK _ ?_⟩
  · obtain ⟨h50, h51, h52, h53⟩ := Box.four hw'
    go_simp
  clear hK K
  have cB := hide (base_c D0)
  refine wpAnyC_calls 0 (by kernel_rfl) (fun oi ho K hK => ?_)
  simp only [List.getElem?_toArray, List.getElem?_cons_zero, Option.some.injEq] at ho
  subst ho
  go_simp
  refine (unhide cB).mono ?_
  rintro r U ⟨a, rfl, sU, bU⟩
  have cD := cD.on bU cD.lt
  replace hb := hide ((unhide hb).trans (bU.mono (unhide hb).size))
  have mP := hide ((unhide mP).on bU)
  have cP := hide (pattern12_c a 2 baseT ⟨[⟨tk [97], [tk [117]], false, false, e0⟩, ⟨tk [99], [tk [116]], false, false, e0⟩], 0, tk [122], false⟩ (some ⟨S + 1 + 1 + 1 + 1, 0, none⟩) 2 (by decide) U sU (unhide mP))
  rw [by_k31, show errO 13 = errV 13 from rfl] at cP
  clear sU bU cB
  go_simp
  refine hK _ _ cD ?_
  clear hK K
  refine wpAnyC_calls 2 (by kernel_rfl) (fun oi ho K hK => ?_)
  simp only [List.getElem?_toArray, List.getElem?_cons_succ, List.getElem?_cons_zero, Option.some.injEq] at ho
  subst ho
  go_simp
  refine (unhide cP).mono ?_
  rintro r G ⟨rfl, bG⟩
  have cD := cD.on bG cD.lt
  replace hb := hide ((unhide hb).trans (bG.mono (unhide hb).size))
  clear bG cP mP
  go_simp
  refine hK _ _ cD ?_
  clear hK K
  refine wpAnyC_reads 3 cD (by kernel_rfl) (by kernel_rfl) (by kernel_rfl) (fun d _ _ _ _ h => by cases d <;> exact h) (fun oi ho K hK => ?_)
  simp only [List.getElem?_toArray, List.getElem?_cons_succ, List.getElem?_cons_zero, Option.some.injEq] at ho
  subst ho
  rw [if_pos (by kernel_rfl)]
  refine ⟨errV 13, fun w' hw' => ?_, hK _ ?_⟩
  · clear hw'
    go_simp
  clear hK K
  refine wpAnyC_done (by kernel_rfl) ?_ _
  go_wp2_with fail
  refine (errIs_same 13 G).mono ?_
  rintro r w9 ⟨rfl, rfl⟩
  go_wp2_with fail
  go_ret
  exact ⟨rfl, unhide hb⟩
theorem by_k32 : chkP baseT ⟨[⟨tk [97], [tk [116], tk [117]], false, false, e0⟩, ⟨tk [99], [tk [116]], false, false, e0⟩], 0, tk [122], false⟩ = 13 := by decide +kernel
set_option maxRecDepth 100000 in
set_option maxHeartbeats 4000000 in
theorem by5_32 (n0 n1 : Int) (h0 : 0 ≤ n0) (h1 : n0 ≤ 255) (h2 : 0 ≤ n1) (h3 : n1 ≤ 255) (hm : n0 % 4 = 3) (hq : n1 % 3 = 2) (w : World) : Calls Try.prog 5 #[.int .u8 n0, .int .u8 n1] w fun e w' => e = .returned (.bool true) ∧ Below w.heap.size w w' := by
  have cK := hide (known6_c w)
  go_enter Try.func5, Try.ntmps5
  go_wp2_with fail
  refine (unhide cK).mono ?_
  rintro r w1 ⟨rfl, hb1⟩
  clear cK
  obtain ⟨S, hS⟩ : ∃ S, S = w1.heap.size := ⟨_, rfl⟩
  obtain ⟨V4, hV4⟩ : ∃ V4, V4 = (((w1.alloc (.cells #[.string ⟨#[116]⟩] 9)).alloc (.cells #[.string ⟨#[117]⟩] 9)).alloc (.cells #[.string ⟨#[116]⟩, .string ⟨#[117]⟩] 9)).alloc (.cells #[.string ⟨#[116]⟩] 9) := ⟨_, rfl⟩
  have bV4 : Below w1.heap.size w1 V4 := by rw [hV4]; exact ((((Below.refl _ _).alloc (Nat.le_refl _) _).alloc (by simp) _).alloc (by simp; omega) _).alloc (by simp; omega) _
  have sV4 : V4.heap.size = S + 1 + 1 + 1 + 1 := by rw [hV4, hS]; simp
  have t0 : Box V4 S 9 #[.string (tk [116]).1] := by rw [hV4, hS]; exact ((Box.new _ _ _).alloc _ |>.alloc _).alloc _
  have t1 : Box V4 (S + 1) 9 #[.string (tk [117]).1] := by
    have := Box.new (w1.alloc (.cells #[.string ⟨#[116]⟩] 9)) 9 #[.string ⟨#[117]⟩]
    simp only [World.size_alloc] at this
    rw [hV4, hS]; exact (this.alloc _).alloc _
  have t2 : Box V4 (S + 1 + 1) 9 #[.string (tk [116]).1, .string (tk [117]).1] := by
    have := Box.new ((w1.alloc (.cells #[.string ⟨#[116]⟩] 9)).alloc (.cells #[.string ⟨#[117]⟩] 9)) 9 #[.string ⟨#[116]⟩, .string ⟨#[117]⟩]
    simp only [World.size_alloc] at this
    rw [hV4, hS]; exact this.alloc _
  have t3 : Box V4 (S + 1 + 1 + 1) 9 #[.string (tk [116]).1] := by
    have := Box.new (((w1.alloc (.cells #[.string ⟨#[116]⟩] 9)).alloc (.cells #[.string ⟨#[117]⟩] 9)).alloc (.cells #[.string ⟨#[116]⟩, .string ⟨#[117]⟩] 9)) 9 #[.string ⟨#[116]⟩]
    simp only [World.size_alloc] at this
    rw [hV4, hS]; exact this
  obtain ⟨W2, hW2⟩ : ∃ W2, W2 = (V4.alloc (.cells (Em.cs ⟨tk [97], [tk [116], tk [117]], false, false, e0⟩ ⟨some ⟨S + 1 + 1, 0, none⟩, 2, none, 0⟩ ++ Em.cs ⟨tk [99], [tk [116]], false, false, e0⟩ ⟨some ⟨S + 1 + 1 + 1, 0, none⟩, 1, none, 0⟩) 41)).alloc (.cells (Pt.cs ⟨[⟨tk [97], [tk [116], tk [117]], false, false, e0⟩, ⟨tk [99], [tk [116]], false, false, e0⟩], 0, tk [122], false⟩ (some ⟨S + 1 + 1 + 1 + 1, 0, none⟩) 2) 48) := ⟨_, rfl⟩
  have bW2 : Below V4.heap.size V4 W2 := by rw [hW2]; exact ((Below.refl _ _).alloc (Nat.le_refl _) _).alloc (by simp) _
  have eW2 : Box W2 (S + 1 + 1 + 1 + 1) 41 (Em.cs ⟨tk [97], [tk [116], tk [117]], false, false, e0⟩ ⟨some ⟨S + 1 + 1, 0, none⟩, 2, none, 0⟩ ++ Em.cs ⟨tk [99], [tk [116]], false, false, e0⟩ ⟨some ⟨S + 1 + 1 + 1, 0, none⟩, 1, none, 0⟩) := by rw [hW2, ← sV4]; exact (Box.new _ _ _).alloc _
  have pW2 : Box W2 (S + 1 + 1 + 1 + 1 + 1) 48 (Pt.cs ⟨[⟨tk [97], [tk [116], tk [117]], false, false, e0⟩, ⟨tk [99], [tk [116]], false, false, e0⟩], 0, tk [122], false⟩ (some ⟨S + 1 + 1 + 1 + 1, 0, none⟩) 2) := by
    have := Box.new (V4.alloc (.cells (Em.cs ⟨tk [97], [tk [116], tk [117]], false, false, e0⟩ ⟨some ⟨S + 1 + 1, 0, none⟩, 2, none, 0⟩ ++ Em.cs ⟨tk [99], [tk [116]], false, false, e0⟩ ⟨some ⟨S + 1 + 1 + 1, 0, none⟩, 1, none, 0⟩) 41)) 48 (Pt.cs ⟨[⟨tk [97], [tk [116], tk [117]], false, false, e0⟩, ⟨tk [99], [tk [116]], false, false, e0⟩], 0, tk [122], false⟩ (some ⟨S + 1 + 1 + 1 + 1, 0, none⟩) 2)
    rw [World.size_alloc, sV4] at this
    rw [hW2]; exact this
  have mW2 := ems_two _ _ _ _ eW2 ⟨txts_two _ _ (t2.on bW2 (by omega)), .nil _⟩ ⟨txts_one _ (t3.on bW2 (by omega)), .nil _⟩
  have bb := hb1.trans ((bV4.trans (bW2.mono bV4.size)).mono hb1.size)
  clear eW2 t0 t1 t2 t3
  have hx := by_ix3
  have hy := by_iy2 w1.heap.size
  have hmx : Try.prog.follows .mixedOrders = true := by kernel_rfl
  go_upto_region 6 with fail
  rw [← hS, show ((((((w1.alloc (.cells #[.string ⟨#[116]⟩] 9)).alloc (.cells #[.string ⟨#[117]⟩] 9)).alloc (.cells #[.string ⟨#[116]⟩, .string ⟨#[117]⟩] 9)).alloc (.cells #[.string ⟨#[116]⟩] 9)).alloc (.cells #[.string ⟨#[97]⟩, .slice (some ⟨S + 1 + 1, 0, none⟩) 2 2, .bool false, .bool false, .int .i64 0, .int .i64 0, .int .i64 0, .string ⟨#[]⟩, .string ⟨#[]⟩, .string ⟨#[]⟩, .slice none 0 0, .string ⟨#[99]⟩, .slice (some ⟨S + 1 + 1 + 1, 0, none⟩) 1 1, .bool false, .bool false, .int .i64 0, .int .i64 0, .int .i64 0, .string ⟨#[]⟩, .string ⟨#[]⟩, .string ⟨#[]⟩, .slice none 0 0] 41)).alloc (.cells #[.slice (some ⟨S + 1 + 1 + 1 + 1, 0, none⟩) 2 2, .int .i64 0, .string ⟨#[122]⟩, .bool false] 48)) = W2 from by rw [hW2, hV4]; rfl]
  obtain ⟨D0, hD0⟩ : ∃ D0, D0 = W2.drew := ⟨_, rfl⟩
  have bD : Below W2.heap.size W2 D0 := by rw [hD0]; exact (Below.refl _ _).drew
  have cD : Box D0 (S + 1 + 1 + 1 + 1 + 1) 48 (Pt.cs ⟨[⟨tk [97], [tk [116], tk [117]], false, false, e0⟩, ⟨tk [99], [tk [116]], false, false, e0⟩], 0, tk [122], false⟩ (some ⟨S + 1 + 1 + 1 + 1, 0, none⟩) 2) := pW2.on bD pW2.lt
  have mP := hide (mW2.on bD)
  have hb := hide (bb.trans (bD.mono bb.size))
  refine wp_region_any hmx (wpAny_of_C (C := fun w' => Box w' (S + 1 + 1 + 1 + 1 + 1) 48 (Pt.cs ⟨[⟨tk [97], [tk [116], tk [117]], false, false, e0⟩, ⟨tk [99], [tk [116]], false, false, e0⟩], 0, tk [122], false⟩ (some ⟨S + 1 + 1 + 1 + 1, 0, none⟩) 2)) _ _ _ _ ?_)
  rw [show ({ heap := W2.heap, tape := W2.tape, drawn := W2.drawn + 1, os := W2.os, output := W2.output } : World) = D0 from hD0.symm]
  clear hD0 bD pW2 mW2 bb hW2 hV4 bV4 bW2 sV4 hb1 hx hy
  replace hS := hide hS
  refine wpAnyC_reads 1 cD (by kernel_rfl) (by kernel_rfl) (by kernel_rfl) (fun d _ _ _ _ h => by cases d <;> exact h) (fun oi ho K hK => ?_)
  simp only [List.getElem?_toArray, List.getElem?_cons_succ, List.getElem?_cons_zero, Option.some.injEq] at ho
  subst ho
  rw [if_pos (by kernel_rfl)]
  refine ⟨Pt.v ⟨[⟨tk [97], [tk [116], tk [117]], false, false, e0⟩, ⟨tk [99], [tk [116]], false, false, e0⟩], 0, tk [122], false⟩ (some ⟨S + 1 + 1 + 1 + 1, 0, none⟩) 2, fun w' hw' => ?_, hK _ ?_⟩
  · obtain ⟨h50, h51, h52, h53⟩ := Box.four hw'
    go_simp
  clear hK K
  have cB := hide (base_c D0)
  refine wpAnyC_calls 0 (by kernel_rfl) (fun oi ho K hK => ?_)
  simp only [List.getElem?_toArray, List.getElem?_cons_zero, Option.some.injEq] at ho
  subst ho
  go_simp
  refine (unhide cB).mono ?_
  rintro r U ⟨a, rfl, sU, bU⟩
  have cD := cD.on bU cD.lt
  replace hb := hide ((unhide hb).trans (bU.mono (unhide hb).size))
  have mP := hide ((unhide mP).on bU)
  have cP := hide (pattern12_c a 2 baseT ⟨[⟨tk [97], [tk [116], tk [117]], false, false, e0⟩, ⟨tk [99], [tk [116]], false, false, e0⟩], 0, tk [122], false⟩ (some ⟨S + 1 + 1 + 1 + 1, 0, none⟩) 2 (by decide) U sU (unhide mP))
  rw [by_k32, show errO 13 = errV 13 from rfl] at cP
  clear sU bU cB
  go_simp
  refine hK _ _ cD ?_
  clear hK K
  refine wpAnyC_calls 2 (by kernel_rfl) (fun oi ho K hK => ?_)
  simp only [List.getElem?_toArray, List.getElem?_cons_succ, List.getElem?_cons_zero, Option.some.injEq] at ho
  subst ho
  go_simp
  refine (unhide cP).mono ?_
  rintro r G ⟨rfl, bG⟩
  have cD := cD.on bG cD.lt
  replace hb := hide ((unhide hb).trans (bG.mono (unhide hb).size))
  clear bG cP mP
  go_simp
  refine hK _ _ cD ?_
  clear hK K
  refine wpAnyC_reads 3 cD (by kernel_rfl) (by kernel_rfl) (by kernel_rfl) (fun d _ _ _ _ h => by cases d <;> exact h) (fun oi ho K hK => ?_)
  simp only [List.getElem?_toArray, List.getElem?_cons_succ, List.getElem?_cons_zero, Option.some.injEq] at ho
  subst ho
  rw [if_pos (by kernel_rfl)]
  refine ⟨errV 13, fun w' hw' => ?_, hK _ ?_⟩
  · clear hw'
    go_simp
  clear hK K
  refine wpAnyC_done (by kernel_rfl) ?_ _
  go_wp2_with fail
  refine (errIs_same 13 G).mono ?_
  rintro r w9 ⟨rfl, rfl⟩
  go_wp2_with fail
  go_ret
  exact ⟨rfl, unhide hb⟩
theorem by5_walk (n0 n1 : Int) (h0 : 0 ≤ n0) (h1 : n0 ≤ 255) (h2 : 0 ≤ n1) (h3 : n1 ≤ 255) (w : World) : Calls Try.prog 5 #[.int .u8 n0, .int .u8 n1] w fun e w' => e = .returned (.bool true) ∧ Below w.heap.size w w' := by
  have hm : n0 % 4 = 0 ∨ n0 % 4 = 1 ∨ n0 % 4 = 2 ∨ n0 % 4 = 3 := by omega
  have hq : n1 % 3 = 0 ∨ n1 % 3 = 1 ∨ n1 % 3 = 2 := by omega
  rcases hm with hm | hm | hm | hm <;> rcases hq with hq | hq | hq
  · exact by5_00 n0 n1 h0 h1 h2 h3 hm hq w
  · exact by5_01 n0 n1 h0 h1 h2 h3 hm hq w
  · exact by5_02 n0 n1 h0 h1 h2 h3 hm hq w
  · exact by5_10 n0 n1 h0 h1 h2 h3 hm hq w
  · exact by5_11 n0 n1 h0 h1 h2 h3 hm hq w
  · exact by5_12 n0 n1 h0 h1 h2 h3 hm hq w
  · exact by5_20 n0 n1 h0 h1 h2 h3 hm hq w
  · exact by5_21 n0 n1 h0 h1 h2 h3 hm hq w
  · exact by5_22 n0 n1 h0 h1 h2 h3 hm hq w
  · exact by5_30 n0 n1 h0 h1 h2 h3 hm hq w
  · exact by5_31 n0 n1 h0 h1 h2 h3 hm hq w
  · exact by5_32 n0 n1 h0 h1 h2 h3 hm hq w
end Go.Proofs.Ytllpigbmkhanjaa
