/-
  The head of package pasternlaw10's laws: what it asks holds.
-/
import Derived.Test.YtllpigbmkhanjaaKnA
namespace Go.Proofs.Ytllpigbmkhanjaa
open Go.RowKit Go.Shelf

attribute [local go_sem] Oper.semAt_some

def elA : Em := ⟨tk [97], [tk [116], tk [117]], false, false, e0⟩
def elP : Em := ⟨tk [97], [tk [116]], false, false, fieldT (tk [97]) (tk [98])⟩
def elQ : Em := ⟨tk [97], [tk [116]], false, false, fieldT (tk [97]) (tk [110])⟩
theorem k1 : kindP baseT [elA] (fieldT (tk [97]) (tk [110])) = (1, 0) := by decide +kernel
theorem k2 : kindP baseT [elA] (fieldT (tk [97]) (tk [115])) = (0, 14) := by decide +kernel
theorem k3 : kindP baseT [elA] (fieldT (tk [97]) (tk [98])) = (0, 13) := by decide +kernel
theorem k4 : kindP baseT [elA] (fieldT (tk [122]) (tk [110])) = (0, 13) := by decide +kernel
theorem k5 : chkP baseT ⟨[elP], 0, tk [110], false⟩ = 0 := by decide +kernel
theorem k6 : chkP baseT ⟨[elQ], 0, t0, false⟩ = 14 := by decide +kernel

theorem txts_two {W : World} {B : Nat} (s t : Txt) (h : Box W B 9 #[.string s.1, .string t.1]) : Txts W.heap.size W (some ⟨B, 0, none⟩) [s, t] := by
  refine ⟨by simp, .inr ⟨B, 0, rfl, h.lt, fun j x hx => ?_⟩⟩
  match j, hx with
  | 0, hx => simp at hx; subst hx; exact h.at 0 rfl
  | 1, hx => simp at hx; subst hx; exact h.at 1 rfl
  | j + 2, hx => simp at hx
theorem txts_one {W : World} {B : Nat} (s : Txt) (h : Box W B 9 #[.string s.1]) : Txts W.heap.size W (some ⟨B, 0, none⟩) [s] := by
  refine ⟨by simp, .inr ⟨B, 0, rfl, h.lt, fun j x hx => ?_⟩⟩
  match j, hx with
  | 0, hx => simp at hx; subst hx; exact h.at 0 rfl
  | j + 1, hx => simp at hx
theorem ems_box {W : World} {B : Nat} (e : Em) (p : Pl) (hb : Box W B 41 (e.cs p)) (h : EmIn W.heap.size W e p) : Ems W.heap.size W (some ⟨B, 0, none⟩) [e] := by
  refine ⟨by simp, .inr ⟨B, 0, fun _ => p, rfl, hb.lt, fun j x hx => ?_⟩⟩
  cases j with
  | zero =>
    simp at hx; subst hx
    refine ⟨fun i u hu => ?_, h⟩
    have := hb.at i hu
    simpa using this
  | succ j => simp at hx

theorem errIs_same (n : Int) (w : World) : Calls Try.prog 11 #[errV n, errV n] w fun e w' => e = .returned (.bool true) ∧ w' = w := by
  have := errIs_c n n w
  rwa [show (n == n) = true by simp] at this

set_option maxRecDepth 100000 in
set_option maxHeartbeats 4000000 in
theorem known6_c (w : World) : Calls Try.prog 6 #[] w fun r W' => r = .returned (.bool true) ∧ Below w.heap.size w W' := by
  obtain ⟨A, hA⟩ : ∃ A, A = w.heap.size := ⟨_, rfl⟩
  obtain ⟨W1, hW1⟩ : ∃ W1, W1 = (w.alloc (.cells #[.string ⟨#[116]⟩, .string ⟨#[117]⟩] 9)).alloc (.cells (elA.cs ⟨some ⟨A, 0, none⟩, 2, none, 0⟩) 41) := ⟨_, rfl⟩
  have b1 : Below w.heap.size w W1 := by rw [hW1]; exact ((Below.refl _ _).alloc (Nat.le_refl _) _).alloc (by simp) _
  have x1 : Box W1 A 9 #[.string (tk [116]).1, .string (tk [117]).1] := by rw [hW1, hA]; exact (Box.new w 9 _).alloc _
  have y1 : Box W1 (A + 1) 41 (elA.cs ⟨some ⟨A, 0, none⟩, 2, none, 0⟩) := by
    have := Box.new (w.alloc (.cells #[.string ⟨#[116]⟩, .string ⟨#[117]⟩] 9)) 41 (elA.cs ⟨some ⟨A, 0, none⟩, 2, none, 0⟩)
    rw [World.size_alloc, ← hA] at this
    rw [hW1]; exact this
  have em1 := hide (ems_box elA _ y1 ⟨txts_two _ _ x1, .nil _⟩)
  clear x1 y1
  have hb := hide b1
  go_enter Try.func6, Try.ntmps6
  go_upto_region 2 with fail
  rw [← hA, show (w.alloc (.cells #[.string ⟨#[116]⟩, .string ⟨#[117]⟩] 9)).alloc (.cells #[.string ⟨#[97]⟩, .slice (some ⟨A, 0, none⟩) 2 2, .bool false, .bool false, .int .i64 0, .int .i64 0, .int .i64 0, .string ⟨#[]⟩, .string ⟨#[]⟩, .string ⟨#[]⟩, .slice none 0 0] 41) = W1 from hW1.symm]
  replace hA := hide hA
  clear hW1 b1
  go_upto_region 2 with fail
  go_wp2_with (fail)
  refine (base_c W1).mono ?_
  rintro r U1 ⟨a1, rfl, sU1, bU1⟩
  have hsU1 := hide sU1
  have hbU1 := hide bU1
  clear sU1 bU1
  go_wp2_with (fail)
  refine (field8_c (tk [97]) (tk [110]) U1).mono ?_
  rintro r V1 ⟨rfl, bV1⟩
  have emV1 := ((unhide em1).on (unhide hbU1)).on bV1
  have cK1 := hide (kind9_c (some ⟨A + 1, 0, none⟩) a1 1 2 baseT [elA] none 0 (fieldT (tk [97]) (tk [110])) V1 ((unhide hsU1).on bV1) emV1 (.nil _))
  rw [k1, show KR.v (1, 0) = .tuple #[.int .i64 1, .nilIface] from rfl] at cK1
  have hbV1 := hide bV1
  clear bV1 emV1
  go_wp2_with (fail)
  refine (unhide cK1).mono ?_
  rintro r Y1 ⟨rfl, bY1⟩
  have bb1 := (unhide hbU1).trans (((unhide hbV1).trans (bY1.mono (unhide hbV1).size)).mono (unhide hbU1).size)
  have em2 := hide ((unhide em1).on bb1)
  replace hb := hide ((unhide hb).trans (bb1.mono (unhide hb).size))
  clear bb1 bY1 cK1 hbU1 hbV1 hsU1 em1
  go_upto_region 3 with fail
  go_wp2_with (fail)
  refine (base_c Y1).mono ?_
  rintro r U2 ⟨a2, rfl, sU2, bU2⟩
  have hsU2 := hide sU2
  have hbU2 := hide bU2
  clear sU2 bU2
  go_wp2_with (fail)
  refine (field8_c (tk [97]) (tk [115]) U2).mono ?_
  rintro r V2 ⟨rfl, bV2⟩
  have emV2 := ((unhide em2).on (unhide hbU2)).on bV2
  have cK2 := hide (kind9_c (some ⟨A + 1, 0, none⟩) a2 1 2 baseT [elA] none 0 (fieldT (tk [97]) (tk [115])) V2 ((unhide hsU2).on bV2) emV2 (.nil _))
  rw [k2, show KR.v (0, 14) = .tuple #[.int .i64 0, errV 14] from rfl] at cK2
  have hbV2 := hide bV2
  clear bV2 emV2
  go_wp2_with (fail)
  refine (unhide cK2).mono ?_
  rintro r Y2 ⟨rfl, bY2⟩
  have bb2 := (unhide hbU2).trans (((unhide hbV2).trans (bY2.mono (unhide hbV2).size)).mono (unhide hbU2).size)
  have em3 := hide ((unhide em2).on bb2)
  replace hb := hide ((unhide hb).trans (bb2.mono (unhide hb).size))
  clear bb2 bY2 cK2 hbU2 hbV2 hsU2 em2
  go_upto_region 4 with fail
  go_wp2_with (fail)
  refine (base_c Y2).mono ?_
  rintro r U3 ⟨a3, rfl, sU3, bU3⟩
  have hsU3 := hide sU3
  have hbU3 := hide bU3
  clear sU3 bU3
  go_wp2_with (fail)
  refine (field8_c (tk [97]) (tk [98]) U3).mono ?_
  rintro r V3 ⟨rfl, bV3⟩
  have emV3 := ((unhide em3).on (unhide hbU3)).on bV3
  have cK3 := hide (kind9_c (some ⟨A + 1, 0, none⟩) a3 1 2 baseT [elA] none 0 (fieldT (tk [97]) (tk [98])) V3 ((unhide hsU3).on bV3) emV3 (.nil _))
  rw [k3, show KR.v (0, 13) = .tuple #[.int .i64 0, errV 13] from rfl] at cK3
  have hbV3 := hide bV3
  clear bV3 emV3
  go_wp2_with (fail)
  refine (unhide cK3).mono ?_
  rintro r Y3 ⟨rfl, bY3⟩
  have bb3 := (unhide hbU3).trans (((unhide hbV3).trans (bY3.mono (unhide hbV3).size)).mono (unhide hbU3).size)
  have em4 := hide ((unhide em3).on bb3)
  replace hb := hide ((unhide hb).trans (bb3.mono (unhide hb).size))
  clear bb3 bY3 cK3 hbU3 hbV3 hsU3 em3
  go_upto_region 5 with fail
  go_wp2_with (fail)
  refine (base_c Y3).mono ?_
  rintro r U4 ⟨a4, rfl, sU4, bU4⟩
  have hsU4 := hide sU4
  have hbU4 := hide bU4
  clear sU4 bU4
  go_wp2_with (fail)
  refine (field8_c (tk [122]) (tk [110]) U4).mono ?_
  rintro r V4 ⟨rfl, bV4⟩
  have emV4 := ((unhide em4).on (unhide hbU4)).on bV4
  have cK4 := hide (kind9_c (some ⟨A + 1, 0, none⟩) a4 1 2 baseT [elA] none 0 (fieldT (tk [122]) (tk [110])) V4 ((unhide hsU4).on bV4) emV4 (.nil _))
  rw [k4, show KR.v (0, 13) = .tuple #[.int .i64 0, errV 13] from rfl] at cK4
  have hbV4 := hide bV4
  clear bV4 emV4
  go_wp2_with (fail)
  refine (unhide cK4).mono ?_
  rintro r Y4 ⟨rfl, bY4⟩
  have bb4 := (unhide hbU4).trans (((unhide hbV4).trans (bY4.mono (unhide hbV4).size)).mono (unhide hbU4).size)
  have em5 := hide ((unhide em4).on bb4)
  replace hb := hide ((unhide hb).trans (bb4.mono (unhide hb).size))
  clear bb4 bY4 cK4 hbU4 hbV4 hsU4 em4
  obtain ⟨S5, hS5⟩ : ∃ S5, S5 = Y4.heap.size := ⟨_, rfl⟩
  obtain ⟨T5, hT5⟩ : ∃ T5, T5 = Y4.alloc (.cells #[.string ⟨#[116]⟩] 9) := ⟨_, rfl⟩
  have bT5 : Below Y4.heap.size Y4 T5 := by rw [hT5]; exact (Below.refl _ _).alloc (Nat.le_refl _) _
  have xT5 : Box T5 S5 9 #[.string (tk [116]).1] := by rw [hT5, hS5]; exact Box.new _ _ _
  have cF5 := hide (field8_c (tk [97]) (tk [98]) T5)
  go_wp2_with (fail)
  rw [← hS5, ← hT5]
  refine (unhide cF5).mono ?_
  rintro r X5 ⟨rfl, bX5⟩
  obtain ⟨Q5, hQ5⟩ : ∃ Q5, Q5 = X5.heap.size := ⟨_, rfl⟩
  obtain ⟨Z5, hZ5⟩ : ∃ Z5, Z5 = (X5.alloc (.cells (elP.cs ⟨some ⟨S5, 0, none⟩, 1, none, 0⟩) 41)).alloc (.cells (Pt.cs ⟨[elP], 0, (tk [110]), false⟩ (some ⟨Q5, 0, none⟩) 1) 48) := ⟨_, rfl⟩
  have bZ5 : Below X5.heap.size X5 Z5 := by rw [hZ5]; exact ((Below.refl _ _).alloc (Nat.le_refl _) _).alloc (by simp) _
  have eZ5 : Box Z5 Q5 41 (elP.cs ⟨some ⟨S5, 0, none⟩, 1, none, 0⟩) := by rw [hZ5, hQ5]; exact (Box.new _ _ _).alloc _
  have pZ5 : Box Z5 (Q5 + 1) 48 (Pt.cs ⟨[elP], 0, (tk [110]), false⟩ (some ⟨Q5, 0, none⟩) 1) := by
    have := Box.new (X5.alloc (.cells (elP.cs ⟨some ⟨S5, 0, none⟩, 1, none, 0⟩) 41)) 48 (Pt.cs ⟨[elP], 0, (tk [110]), false⟩ (some ⟨Q5, 0, none⟩) 1)
    rw [World.size_alloc, ← hQ5] at this
    rw [hZ5]; exact this
  have mZ5 := hide (ems_box elP _ eZ5 ⟨txts_one _ ((xT5.on bX5 xT5.lt).on bZ5 (by have := xT5.lt; have := bX5.size; omega)), .nil _⟩)
  have aZ5 := bT5.trans ((bX5.trans (bZ5.mono bX5.size)).mono bT5.size)
  replace hb := hide ((unhide hb).trans (aZ5.mono (unhide hb).size))
  have hpZ5 := hide pZ5
  have haZ5 := hide aZ5
  replace hS5 := hide hS5
  clear hT5 bT5 xT5 cF5 bX5 bZ5 eZ5 pZ5 aZ5
  go_upto_region 7 with fail
  rw [← hQ5, show (X5.alloc (.cells #[.string ⟨#[97]⟩, .slice (some ⟨S5, 0, none⟩) 1 1, .bool false, .bool false, .int .i64 2, .int .i64 0, .int .i64 0, .string ⟨#[]⟩, .string ⟨#[97]⟩, .string ⟨#[98]⟩, .slice none 0 0] 41)).alloc (.cells #[.slice (some ⟨Q5, 0, none⟩) 1 1, .int .i64 0, .string (tk [110]).1, .bool false] 48) = Z5 from hZ5.symm]
  clear hZ5
  replace hQ5 := hide hQ5
  obtain ⟨S6, hS6⟩ : ∃ S6, S6 = Z5.heap.size := ⟨_, rfl⟩
  obtain ⟨T6, hT6⟩ : ∃ T6, T6 = Z5.alloc (.cells #[.string ⟨#[116]⟩] 9) := ⟨_, rfl⟩
  have bT6 : Below Z5.heap.size Z5 T6 := by rw [hT6]; exact (Below.refl _ _).alloc (Nat.le_refl _) _
  have xT6 : Box T6 S6 9 #[.string (tk [116]).1] := by rw [hT6, hS6]; exact Box.new _ _ _
  have cF6 := hide (field8_c (tk [97]) (tk [110]) T6)
  go_wp2_with (fail)
  rw [← hS6, ← hT6]
  refine (unhide cF6).mono ?_
  rintro r X6 ⟨rfl, bX6⟩
  obtain ⟨Q6, hQ6⟩ : ∃ Q6, Q6 = X6.heap.size := ⟨_, rfl⟩
  obtain ⟨Z6, hZ6⟩ : ∃ Z6, Z6 = (X6.alloc (.cells (elQ.cs ⟨some ⟨S6, 0, none⟩, 1, none, 0⟩) 41)).alloc (.cells (Pt.cs ⟨[elQ], 0, t0, false⟩ (some ⟨Q6, 0, none⟩) 1) 48) := ⟨_, rfl⟩
  have bZ6 : Below X6.heap.size X6 Z6 := by rw [hZ6]; exact ((Below.refl _ _).alloc (Nat.le_refl _) _).alloc (by simp) _
  have eZ6 : Box Z6 Q6 41 (elQ.cs ⟨some ⟨S6, 0, none⟩, 1, none, 0⟩) := by rw [hZ6, hQ6]; exact (Box.new _ _ _).alloc _
  have pZ6 : Box Z6 (Q6 + 1) 48 (Pt.cs ⟨[elQ], 0, t0, false⟩ (some ⟨Q6, 0, none⟩) 1) := by
    have := Box.new (X6.alloc (.cells (elQ.cs ⟨some ⟨S6, 0, none⟩, 1, none, 0⟩) 41)) 48 (Pt.cs ⟨[elQ], 0, t0, false⟩ (some ⟨Q6, 0, none⟩) 1)
    rw [World.size_alloc, ← hQ6] at this
    rw [hZ6]; exact this
  have mZ6 := hide (ems_box elQ _ eZ6 ⟨txts_one _ ((xT6.on bX6 xT6.lt).on bZ6 (by have := xT6.lt; have := bX6.size; omega)), .nil _⟩)
  have aZ6 := bT6.trans ((bX6.trans (bZ6.mono bX6.size)).mono bT6.size)
  replace hb := hide ((unhide hb).trans (aZ6.mono (unhide hb).size))
  have hpZ6 := hide pZ6
  have haZ6 := hide aZ6
  replace hS6 := hide hS6
  clear hT6 bT6 xT6 cF6 bX6 bZ6 eZ6 pZ6 aZ6
  go_upto_region 8 with fail
  rw [← hQ6, show (X6.alloc (.cells #[.string ⟨#[97]⟩, .slice (some ⟨S6, 0, none⟩) 1 1, .bool false, .bool false, .int .i64 2, .int .i64 0, .int .i64 0, .string ⟨#[]⟩, .string ⟨#[97]⟩, .string ⟨#[110]⟩, .slice none 0 0] 41)).alloc (.cells #[.slice (some ⟨Q6, 0, none⟩) 1 1, .int .i64 0, .string t0.1, .bool false] 48) = Z6 from hZ6.symm]
  clear hZ6
  replace hQ6 := hide hQ6
  have hmx : Try.prog.follows .mixedOrders = true := by kernel_rfl
  obtain ⟨D0, hD0⟩ : ∃ D0, D0 = Z6.drew := ⟨_, rfl⟩
  have bD : Below Z6.heap.size Z6 D0 := by rw [hD0]; exact (Below.refl _ _).drew
  have cD : Box D0 (Q5 + 1) 48 (Pt.cs ⟨[elP], 0, (tk [110]), false⟩ (some ⟨Q5, 0, none⟩) 1) ∧ Box D0 (Q6 + 1) 48 (Pt.cs ⟨[elQ], 0, t0, false⟩ (some ⟨Q6, 0, none⟩) 1) := ⟨((unhide hpZ5).on (unhide haZ6) (unhide hpZ5).lt).on bD (by have := (unhide hpZ5).lt; have := (unhide haZ6).size; omega), (unhide hpZ6).on bD (unhide hpZ6).lt⟩
  have mP := hide (((unhide mZ5).on (unhide haZ6)).on bD)
  have mQ := hide ((unhide mZ6).on bD)
  replace hb := hide ((unhide hb).trans (bD.mono (unhide hb).size))
  have cI14 := hide (errIs_same 14)
  have cI13 := hide (errIs_same 13)
  refine wp_region_any hmx (wpAny_of_C (C := fun w' => Box w' (Q5 + 1) 48 (Pt.cs ⟨[elP], 0, (tk [110]), false⟩ (some ⟨Q5, 0, none⟩) 1) ∧ Box w' (Q6 + 1) 48 (Pt.cs ⟨[elQ], 0, t0, false⟩ (some ⟨Q6, 0, none⟩) 1)) _ _ _ _ ?_)
  rw [show ({ heap := Z6.heap, tape := Z6.tape, drawn := Z6.drawn + 1, os := Z6.os, output := Z6.output } : World) = D0 from hD0.symm]
  clear hD0 bD hpZ5 hpZ6 haZ5 haZ6 mZ5 mZ6
  refine wpAnyC_reads 0 cD (by kernel_rfl) (by kernel_rfl) (by kernel_rfl) (fun d _ _ _ _ h => by cases d <;> exact h) (fun oi ho K hK => ?_)
  simp only [List.getElem?_toArray, List.getElem?_cons_zero, Option.some.injEq] at ho
  subst ho
  rw [if_pos (by kernel_rfl)]
  refine ⟨.nilIface, fun w' hw' => ?_, hK _ ?_⟩
  · clear hw'
    go_simp
  clear hK K
  refine wpAnyC_reads 1 cD (by kernel_rfl) (by kernel_rfl) (by kernel_rfl) (fun d _ _ _ _ h => by cases d <;> exact h) (fun oi ho K hK => ?_)
  simp only [List.getElem?_toArray, List.getElem?_cons_succ, List.getElem?_cons_zero, Option.some.injEq] at ho
  subst ho
  rw [if_pos (by kernel_rfl)]
  refine ⟨.bool true, fun w' hw' => ?_, hK _ ?_⟩
  · clear hw'
    go_simp
  clear hK K
  refine wpAnyC_reads 2 cD (by kernel_rfl) (by kernel_rfl) (by kernel_rfl) (fun d _ _ _ _ h => by cases d <;> exact h) (fun oi ho K hK => ?_)
  simp only [List.getElem?_toArray, List.getElem?_cons_succ, List.getElem?_cons_zero, Option.some.injEq] at ho
  subst ho
  rw [if_pos (by kernel_rfl)]
  refine ⟨.bool true, fun w' hw' => ?_, hK _ ?_⟩
  · clear hw'
    go_simp
  clear hK K
  refine wpAnyC_reads 3 cD (by kernel_rfl) (by kernel_rfl) (by kernel_rfl) (fun d _ _ _ _ h => by cases d <;> exact h) (fun oi ho K hK => ?_)
  simp only [List.getElem?_toArray, List.getElem?_cons_succ, List.getElem?_cons_zero, Option.some.injEq] at ho
  subst ho
  rw [if_pos (by kernel_rfl)]
  refine ⟨.int .i64 1, fun w' hw' => ?_, hK _ ?_⟩
  · clear hw'
    go_simp
  clear hK K
  refine wpAnyC_reads 4 cD (by kernel_rfl) (by kernel_rfl) (by kernel_rfl) (fun d _ _ _ _ h => by cases d <;> exact h) (fun oi ho K hK => ?_)
  simp only [List.getElem?_toArray, List.getElem?_cons_succ, List.getElem?_cons_zero, Option.some.injEq] at ho
  subst ho
  rw [if_pos (by kernel_rfl)]
  refine ⟨.bool true, fun w' hw' => ?_, hK _ ?_⟩
  · clear hw'
    go_simp
  clear hK K
  refine wpAnyC_reads 5 cD (by kernel_rfl) (by kernel_rfl) (by kernel_rfl) (fun d _ _ _ _ h => by cases d <;> exact h) (fun oi ho K hK => ?_)
  simp only [List.getElem?_toArray, List.getElem?_cons_succ, List.getElem?_cons_zero, Option.some.injEq] at ho
  subst ho
  rw [if_pos (by kernel_rfl)]
  refine ⟨.bool true, fun w' hw' => ?_, hK _ ?_⟩
  · clear hw'
    go_simp
  clear hK K
  refine wpAnyC_reads 6 cD (by kernel_rfl) (by kernel_rfl) (by kernel_rfl) (fun d _ _ _ _ h => by cases d <;> exact h) (fun oi ho K hK => ?_)
  simp only [List.getElem?_toArray, List.getElem?_cons_succ, List.getElem?_cons_zero, Option.some.injEq] at ho
  subst ho
  rw [if_pos (by kernel_rfl)]
  refine ⟨.bool true, fun w' hw' => ?_, hK _ ?_⟩
  · clear hw'
    go_simp
  clear hK K
  refine wpAnyC_reads 7 cD (by kernel_rfl) (by kernel_rfl) (by kernel_rfl) (fun d _ _ _ _ h => by cases d <;> exact h) (fun oi ho K hK => ?_)
  simp only [List.getElem?_toArray, List.getElem?_cons_succ, List.getElem?_cons_zero, Option.some.injEq] at ho
  subst ho
  rw [if_pos (by kernel_rfl)]
  refine ⟨errV 14, fun w' hw' => ?_, hK _ ?_⟩
  · clear hw'
    go_simp
  clear hK K
  refine wpAnyC_reads 8 cD (by kernel_rfl) (by kernel_rfl) (by kernel_rfl) (fun d _ _ _ _ h => by cases d <;> exact h) (fun oi ho K hK => ?_)
  simp only [List.getElem?_toArray, List.getElem?_cons_succ, List.getElem?_cons_zero, Option.some.injEq] at ho
  subst ho
  rw [if_pos (by kernel_rfl)]
  refine ⟨errV 14, fun w' hw' => ?_, hK _ ?_⟩
  · clear hw'
    go_simp
  clear hK K
  refine wpAnyC_calls 9 (by kernel_rfl) (fun oi ho K hK => ?_)
  simp only [List.getElem?_toArray, List.getElem?_cons_succ, List.getElem?_cons_zero, Option.some.injEq] at ho
  subst ho
  go_simp
  refine (unhide cI14 D0).mono ?_
  rintro r w9 ⟨rfl, rfl⟩
  go_simp
  refine hK _ _ cD ?_
  clear hK K
  refine wpAnyC_reads 10 cD (by kernel_rfl) (by kernel_rfl) (by kernel_rfl) (fun d _ _ _ _ h => by cases d <;> exact h) (fun oi ho K hK => ?_)
  simp only [List.getElem?_toArray, List.getElem?_cons_succ, List.getElem?_cons_zero, Option.some.injEq] at ho
  subst ho
  rw [if_pos (by kernel_rfl)]
  refine ⟨.bool true, fun w' hw' => ?_, hK _ ?_⟩
  · clear hw'
    go_simp
  clear hK K
  refine wpAnyC_reads 11 cD (by kernel_rfl) (by kernel_rfl) (by kernel_rfl) (fun d _ _ _ _ h => by cases d <;> exact h) (fun oi ho K hK => ?_)
  simp only [List.getElem?_toArray, List.getElem?_cons_succ, List.getElem?_cons_zero, Option.some.injEq] at ho
  subst ho
  rw [if_pos (by kernel_rfl)]
  refine ⟨.bool true, fun w' hw' => ?_, hK _ ?_⟩
  · clear hw'
    go_simp
  clear hK K
  refine wpAnyC_reads 12 cD (by kernel_rfl) (by kernel_rfl) (by kernel_rfl) (fun d _ _ _ _ h => by cases d <;> exact h) (fun oi ho K hK => ?_)
  simp only [List.getElem?_toArray, List.getElem?_cons_succ, List.getElem?_cons_zero, Option.some.injEq] at ho
  subst ho
  rw [if_pos (by kernel_rfl)]
  refine ⟨errV 13, fun w' hw' => ?_, hK _ ?_⟩
  · clear hw'
    go_simp
  clear hK K
  refine wpAnyC_reads 13 cD (by kernel_rfl) (by kernel_rfl) (by kernel_rfl) (fun d _ _ _ _ h => by cases d <;> exact h) (fun oi ho K hK => ?_)
  simp only [List.getElem?_toArray, List.getElem?_cons_succ, List.getElem?_cons_zero, Option.some.injEq] at ho
  subst ho
  rw [if_pos (by kernel_rfl)]
  refine ⟨errV 13, fun w' hw' => ?_, hK _ ?_⟩
  · clear hw'
    go_simp
  clear hK K
  refine wpAnyC_calls 14 (by kernel_rfl) (fun oi ho K hK => ?_)
  simp only [List.getElem?_toArray, List.getElem?_cons_succ, List.getElem?_cons_zero, Option.some.injEq] at ho
  subst ho
  go_simp
  refine (unhide cI13 _).mono ?_
  rintro r w9 ⟨rfl, rfl⟩
  go_simp
  refine hK _ _ cD ?_
  clear hK K
  refine wpAnyC_reads 15 cD (by kernel_rfl) (by kernel_rfl) (by kernel_rfl) (fun d _ _ _ _ h => by cases d <;> exact h) (fun oi ho K hK => ?_)
  simp only [List.getElem?_toArray, List.getElem?_cons_succ, List.getElem?_cons_zero, Option.some.injEq] at ho
  subst ho
  rw [if_pos (by kernel_rfl)]
  refine ⟨.bool true, fun w' hw' => ?_, hK _ ?_⟩
  · clear hw'
    go_simp
  clear hK K
  refine wpAnyC_reads 16 cD (by kernel_rfl) (by kernel_rfl) (by kernel_rfl) (fun d _ _ _ _ h => by cases d <;> exact h) (fun oi ho K hK => ?_)
  simp only [List.getElem?_toArray, List.getElem?_cons_succ, List.getElem?_cons_zero, Option.some.injEq] at ho
  subst ho
  rw [if_pos (by kernel_rfl)]
  refine ⟨.bool true, fun w' hw' => ?_, hK _ ?_⟩
  · clear hw'
    go_simp
  clear hK K
  refine wpAnyC_reads 17 cD (by kernel_rfl) (by kernel_rfl) (by kernel_rfl) (fun d _ _ _ _ h => by cases d <;> exact h) (fun oi ho K hK => ?_)
  simp only [List.getElem?_toArray, List.getElem?_cons_succ, List.getElem?_cons_zero, Option.some.injEq] at ho
  subst ho
  rw [if_pos (by kernel_rfl)]
  refine ⟨errV 13, fun w' hw' => ?_, hK _ ?_⟩
  · clear hw'
    go_simp
  clear hK K
  refine wpAnyC_reads 18 cD (by kernel_rfl) (by kernel_rfl) (by kernel_rfl) (fun d _ _ _ _ h => by cases d <;> exact h) (fun oi ho K hK => ?_)
  simp only [List.getElem?_toArray, List.getElem?_cons_succ, List.getElem?_cons_zero, Option.some.injEq] at ho
  subst ho
  rw [if_pos (by kernel_rfl)]
  refine ⟨errV 13, fun w' hw' => ?_, hK _ ?_⟩
  · clear hw'
    go_simp
  clear hK K
  refine wpAnyC_calls 19 (by kernel_rfl) (fun oi ho K hK => ?_)
  simp only [List.getElem?_toArray, List.getElem?_cons_succ, List.getElem?_cons_zero, Option.some.injEq] at ho
  subst ho
  go_simp
  refine (unhide cI13 _).mono ?_
  rintro r w9 ⟨rfl, rfl⟩
  go_simp
  refine hK _ _ cD ?_
  clear hK K
  refine wpAnyC_reads 20 cD (by kernel_rfl) (by kernel_rfl) (by kernel_rfl) (fun d _ _ _ _ h => by cases d <;> exact h) (fun oi ho K hK => ?_)
  simp only [List.getElem?_toArray, List.getElem?_cons_succ, List.getElem?_cons_zero, Option.some.injEq] at ho
  subst ho
  rw [if_pos (by kernel_rfl)]
  refine ⟨.bool true, fun w' hw' => ?_, hK _ ?_⟩
  · clear hw'
    go_simp
  clear hK K
  refine wpAnyC_reads 21 cD (by kernel_rfl) (by kernel_rfl) (by kernel_rfl) (fun d _ _ _ _ h => by cases d <;> exact h) (fun oi ho K hK => ?_)
  simp only [List.getElem?_toArray, List.getElem?_cons_succ, List.getElem?_cons_zero, Option.some.injEq] at ho
  subst ho
  rw [if_pos (by kernel_rfl)]
  refine ⟨.bool true, fun w' hw' => ?_, hK _ ?_⟩
  · clear hw'
    go_simp
  clear hK K
  refine wpAnyC_reads 23 cD (by kernel_rfl) (by kernel_rfl) (by kernel_rfl) (fun d _ _ _ _ h => by cases d <;> exact h) (fun oi ho K hK => ?_)
  simp only [List.getElem?_toArray, List.getElem?_cons_succ, List.getElem?_cons_zero, Option.some.injEq] at ho
  subst ho
  rw [if_pos (by kernel_rfl)]
  refine ⟨Pt.v ⟨[elP], 0, (tk [110]), false⟩ (some ⟨Q5, 0, none⟩) 1, fun w' hw' => ?_, hK _ ?_⟩
  · obtain ⟨hx5, hx6⟩ := hw'
    obtain ⟨h50, h51, h52, h53⟩ := hx5.four
    obtain ⟨h60, h61, h62, h63⟩ := hx6.four
    go_simp
  clear hK K
  have cB7 := hide (base_c w9)
  refine wpAnyC_calls 22 (by kernel_rfl) (fun oi ho K hK => ?_)
  simp only [List.getElem?_toArray, List.getElem?_cons_succ, List.getElem?_cons_zero, Option.some.injEq] at ho
  subst ho
  go_simp
  refine (unhide cB7).mono ?_
  rintro r U7 ⟨a7, rfl, sU7, bU7⟩
  have cD := And.intro (cD.1.on bU7 cD.1.lt) (cD.2.on bU7 cD.2.lt)
  replace hb := hide ((unhide hb).trans (bU7.mono (unhide hb).size))
  have mP := hide ((unhide mP).on bU7)
  have mQ := hide ((unhide mQ).on bU7)
  have hsU7 := hide sU7
  clear sU7 bU7 cB7
  go_simp
  refine hK _ _ cD ?_
  clear hK K
  have cP7 := hide (pattern12_c a7 2 baseT ⟨[elP], 0, (tk [110]), false⟩ (some ⟨Q5, 0, none⟩) 1 (by decide) U7 (unhide hsU7) (unhide mP))
  rw [k5, show errO 0 = .nilIface from rfl] at cP7
  refine wpAnyC_calls 24 (by kernel_rfl) (fun oi ho K hK => ?_)
  simp only [List.getElem?_toArray, List.getElem?_cons_succ, List.getElem?_cons_zero, Option.some.injEq] at ho
  subst ho
  go_simp
  refine (unhide cP7).mono ?_
  rintro r G7 ⟨rfl, bG7⟩
  have cD := And.intro (cD.1.on bG7 cD.1.lt) (cD.2.on bG7 cD.2.lt)
  replace hb := hide ((unhide hb).trans (bG7.mono (unhide hb).size))
  have mP := hide ((unhide mP).on bG7)
  have mQ := hide ((unhide mQ).on bG7)
  clear bG7 cP7 hsU7
  go_simp
  refine hK _ _ cD ?_
  clear hK K
  refine wpAnyC_reads 25 cD (by kernel_rfl) (by kernel_rfl) (by kernel_rfl) (fun d _ _ _ _ h => by cases d <;> exact h) (fun oi ho K hK => ?_)
  simp only [List.getElem?_toArray, List.getElem?_cons_succ, List.getElem?_cons_zero, Option.some.injEq] at ho
  subst ho
  rw [if_pos (by kernel_rfl)]
  refine ⟨.bool true, fun w' hw' => ?_, hK _ ?_⟩
  · clear hw'
    go_simp
  clear hK K
  refine wpAnyC_reads 26 cD (by kernel_rfl) (by kernel_rfl) (by kernel_rfl) (fun d _ _ _ _ h => by cases d <;> exact h) (fun oi ho K hK => ?_)
  simp only [List.getElem?_toArray, List.getElem?_cons_succ, List.getElem?_cons_zero, Option.some.injEq] at ho
  subst ho
  rw [if_pos (by kernel_rfl)]
  refine ⟨.bool true, fun w' hw' => ?_, hK _ ?_⟩
  · clear hw'
    go_simp
  clear hK K
  refine wpAnyC_reads 27 cD (by kernel_rfl) (by kernel_rfl) (by kernel_rfl) (fun d _ _ _ _ h => by cases d <;> exact h) (fun oi ho K hK => ?_)
  simp only [List.getElem?_toArray, List.getElem?_cons_succ, List.getElem?_cons_zero, Option.some.injEq] at ho
  subst ho
  rw [if_pos (by kernel_rfl)]
  refine ⟨.bool true, fun w' hw' => ?_, hK _ ?_⟩
  · clear hw'
    go_simp
  clear hK K
  refine wpAnyC_reads 29 cD (by kernel_rfl) (by kernel_rfl) (by kernel_rfl) (fun d _ _ _ _ h => by cases d <;> exact h) (fun oi ho K hK => ?_)
  simp only [List.getElem?_toArray, List.getElem?_cons_succ, List.getElem?_cons_zero, Option.some.injEq] at ho
  subst ho
  rw [if_pos (by kernel_rfl)]
  refine ⟨Pt.v ⟨[elQ], 0, t0, false⟩ (some ⟨Q6, 0, none⟩) 1, fun w' hw' => ?_, hK _ ?_⟩
  · obtain ⟨hx5, hx6⟩ := hw'
    obtain ⟨h50, h51, h52, h53⟩ := hx5.four
    obtain ⟨h60, h61, h62, h63⟩ := hx6.four
    go_simp
  clear hK K
  refine wpAnyC_reads 31 cD (by kernel_rfl) (by kernel_rfl) (by kernel_rfl) (fun d _ _ _ _ h => by cases d <;> exact h) (fun oi ho K hK => ?_)
  simp only [List.getElem?_toArray, List.getElem?_cons_succ, List.getElem?_cons_zero, Option.some.injEq] at ho
  subst ho
  rw [if_pos (by kernel_rfl)]
  refine ⟨errV 14, fun w' hw' => ?_, hK _ ?_⟩
  · clear hw'
    go_simp
  clear hK K
  have cB8 := hide (base_c G7)
  refine wpAnyC_calls 28 (by kernel_rfl) (fun oi ho K hK => ?_)
  simp only [List.getElem?_toArray, List.getElem?_cons_succ, List.getElem?_cons_zero, Option.some.injEq] at ho
  subst ho
  go_simp
  refine (unhide cB8).mono ?_
  rintro r U8 ⟨a8, rfl, sU8, bU8⟩
  have cD := And.intro (cD.1.on bU8 cD.1.lt) (cD.2.on bU8 cD.2.lt)
  replace hb := hide ((unhide hb).trans (bU8.mono (unhide hb).size))
  have mP := hide ((unhide mP).on bU8)
  have mQ := hide ((unhide mQ).on bU8)
  have hsU8 := hide sU8
  clear sU8 bU8 cB8
  go_simp
  refine hK _ _ cD ?_
  clear hK K
  have cP8 := hide (pattern12_c a8 2 baseT ⟨[elQ], 0, t0, false⟩ (some ⟨Q6, 0, none⟩) 1 (by decide) U8 (unhide hsU8) (unhide mQ))
  rw [k6, show errO 14 = errV 14 from rfl] at cP8
  refine wpAnyC_calls 30 (by kernel_rfl) (fun oi ho K hK => ?_)
  simp only [List.getElem?_toArray, List.getElem?_cons_succ, List.getElem?_cons_zero, Option.some.injEq] at ho
  subst ho
  go_simp
  refine (unhide cP8).mono ?_
  rintro r G8 ⟨rfl, bG8⟩
  have cD := And.intro (cD.1.on bG8 cD.1.lt) (cD.2.on bG8 cD.2.lt)
  replace hb := hide ((unhide hb).trans (bG8.mono (unhide hb).size))
  have mP := hide ((unhide mP).on bG8)
  have mQ := hide ((unhide mQ).on bG8)
  clear bG8 cP8 hsU8
  go_simp
  refine hK _ _ cD ?_
  clear hK K
  refine wpAnyC_calls 32 (by kernel_rfl) (fun oi ho K hK => ?_)
  simp only [List.getElem?_toArray, List.getElem?_cons_succ, List.getElem?_cons_zero, Option.some.injEq] at ho
  subst ho
  go_simp
  refine (unhide cI14 _).mono ?_
  rintro r w9 ⟨rfl, rfl⟩
  go_simp
  refine hK _ _ cD ?_
  clear hK K
  refine wpAnyC_reads 33 cD (by kernel_rfl) (by kernel_rfl) (by kernel_rfl) (fun d _ _ _ _ h => by cases d <;> exact h) (fun oi ho K hK => ?_)
  simp only [List.getElem?_toArray, List.getElem?_cons_succ, List.getElem?_cons_zero, Option.some.injEq] at ho
  subst ho
  rw [if_pos (by kernel_rfl)]
  refine ⟨.bool true, fun w' hw' => ?_, hK _ ?_⟩
  · clear hw'
    go_simp
  clear hK K
  refine wpAnyC_reads 34 cD (by kernel_rfl) (by kernel_rfl) (by kernel_rfl) (fun d _ _ _ _ h => by cases d <;> exact h) (fun oi ho K hK => ?_)
  simp only [List.getElem?_toArray, List.getElem?_cons_succ, List.getElem?_cons_zero, Option.some.injEq] at ho
  subst ho
  rw [if_pos (by kernel_rfl)]
  refine ⟨.bool true, fun w' hw' => ?_, hK _ ?_⟩
  · clear hw'
    go_simp
  clear hK K
  refine wpAnyC_done (by kernel_rfl) ?_ _
  go_wp2_with fail
  go_ret
  exact ⟨rfl, unhide hb⟩
end Go.Proofs.Ytllpigbmkhanjaa
