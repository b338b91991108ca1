/-
  What package pasternlaw9's ParseDeep does: conditions as deep, of as many nodes as may be, and more.
-/
import Derived.Test.YtmhpakhnclkenaaGreatDoorKnown9
namespace Go.Proofs.YtmhpakhnclkenaaGreatDoor
open Go.RowKit Go.Shelf

attribute [local go_sem] Oper.semAt_some

/-- The text after j rounds, and how many nodes it has. -/
def deepL (w : Bool) : Nat → List UInt8
  | 0 => [49]
  | j + 1 => if w then 40 :: (deepL w j ++ ([32, 43, 32] ++ (deepL w j ++ [41]))) else 40 :: (deepL w j ++ [32, 43, 32, 49, 41])
def deepN (w : Bool) : Nat → Int
  | 0 => 1
  | j + 1 => if w then 2 * deepN w j + 1 else deepN w j + 2
def deepB (w : Bool) (j : Nat) : ByteArray := ⟨(deepL w j).toArray⟩
def deepP (w : Bool) (j : Nat) : ByteArray := ⟨([83, 69, 81, 40, 97, 58, 116, 91] ++ (deepL w j ++ [93, 41, 32, 87, 73, 84, 72, 73, 78, 32, 49])).toArray⟩
def deepOk (w : Bool) (j : Nat) : Bool := decide (j + 1 ≤ 5) && decide (deepN w j ≤ 24)
def deepE (w : Bool) (j : Nat) : Int := if deepOk w j then 0 else 12
set_option maxRecDepth 100000 in
theorem deep_told : ([true, false].all fun w => (List.range 7).all fun j => decide ((exprF (readP (deepB w j))).2 = deepE w j) && decide ((patF (readP (deepP w j))).2 = deepE w j) && decide ((deepB w j).size ≤ 400) && decide (deepN w j ≤ 200) && decide (1 ≤ deepN w j)) = true := by decide +kernel
theorem deep_at (w : Bool) (j : Nat) (hj : j < 7) : (exprF (readP (deepB w j))).2 = deepE w j ∧ (patF (readP (deepP w j))).2 = deepE w j ∧ (deepB w j).size ≤ 400 ∧ deepN w j ≤ 200 ∧ 1 ≤ deepN w j := by
  have h := List.all_eq_true.1 ((List.all_eq_true.1 deep_told) w (by cases w <;> simp)) j (List.mem_range.2 hj)
  simp only [Bool.and_eq_true, decide_eq_true_eq] at h
  obtain ⟨⟨⟨⟨h1, h2⟩, h3⟩, h4⟩, h5⟩ := h
  exact ⟨h1, h2, h3, h4, h5⟩
theorem deepB_list (w : Bool) (j : Nat) : (deepB w j).data.toList = deepL w j := by simp [deepB]
theorem deepB_wide (j : Nat) : (((⟨#[40]⟩ : ByteArray) ++ deepB true j ++ ⟨#[32, 43, 32]⟩) ++ deepB true j) ++ ⟨#[41]⟩ = deepB true (j + 1) := eq_of_list (by
  simp only [append_list, deepB_list, deepL, if_true]; simp)
theorem deepB_slim (j : Nat) : ((⟨#[40]⟩ : ByteArray) ++ deepB false j) ++ ⟨#[32, 43, 32, 49, 41]⟩ = deepB false (j + 1) := eq_of_list (by
  simp only [append_list, deepB_list, deepL]; simp)
theorem deepP_eq (w : Bool) (j : Nat) : ((⟨#[83, 69, 81, 40, 97, 58, 116, 91]⟩ : ByteArray) ++ deepB w j) ++ ⟨#[93, 41, 32, 87, 73, 84, 72, 73, 78, 32, 49]⟩ = deepP w j := eq_of_list (by
  simp only [append_list, deepB_list, deepP]; simp)

set_option maxRecDepth 100000 in
set_option maxHeartbeats 8000000 in
theorem deep5_c (n : Int) (wd : Bool) (h0 : 0 ≤ n) (h1 : n ≤ 255) (W : World) (h9 : V9 W) : Calls Tryz.prog 5 #[.int .u8 n, .bool wd] W fun r W' => r = .returned (.bool true) ∧ Below W.heap.size W W' := by
  have CK := hide (known7_c W h9)
  replace h9 := hide h9
  go_enter Tryz.func5, Tryz.ntmps5
  go_wp2_with fail
  refine (unhide CK).mono ?_
  rintro r W1 ⟨rfl, b1⟩
  have V1 := hide ((unhide h9).on b1)
  clear CK h9
  obtain ⟨K, hK⟩ : ∃ K : Nat, n % 7 = (K : Int) := ⟨(n % 7).toNat, by omega⟩
  have hK7 : K < 7 := by omega
  go_wp2_with fail
  rw [hK]
  clear hK
  go_loop [6, 7, 8] (fun t m i => ∃ j : Nat, j ≤ K ∧ t = .string (deepB wd j) ∧ m = .int .i64 (deepN wd j) ∧ i = .int .i64 ((j : Int) + 1)) (fun _ _ i => K + 1 - (intOf i).toNat)
  case atStart => exact ⟨0, Nat.zero_le _, rfl, rfl, rfl⟩
  case round =>
    obtain ⟨j, hj, rfl, rfl, rfl⟩ := hrel
    obtain ⟨e1, e2, hxs, hm1, hm0⟩ := deep_at wd j (by omega)
    by_cases hlt : j < K
    · clear e1 e2
      cases wd
      · have htk := hide (deepB_slim j)
        have hN := hide (show deepN false (j + 1) = deepN false j + 2 from rfl)
        generalize deepB false j = x at htk hxs ⊢
        generalize deepN false j = m at hN hm1 hm0 ⊢
        have z1 : ((⟨#[40]⟩ : ByteArray) ++ x).size = x.size + 1 := by rw [ByteArray.size_append]; show 1 + x.size = _; omega
        go_wp2_with fail
        exact ⟨⟨j + 1, by omega, by rw [unhide htk], by rw [unhide hN], by go_num⟩, by simp [intOf]; omega⟩
      · have htk := hide (deepB_wide j)
        have hN := hide (show deepN true (j + 1) = 2 * deepN true j + 1 from rfl)
        generalize deepB true j = x at htk hxs ⊢
        generalize deepN true j = m at hN hm1 hm0 ⊢
        have z1 : ((⟨#[40]⟩ : ByteArray) ++ x).size = x.size + 1 := by rw [ByteArray.size_append]; show 1 + x.size = _; omega
        have z2 : ((⟨#[40]⟩ : ByteArray) ++ x ++ ⟨#[32, 43, 32]⟩).size = x.size + 4 := by rw [ByteArray.size_append, z1]; rfl
        have z3 : ((⟨#[40]⟩ : ByteArray) ++ x ++ ⟨#[32, 43, 32]⟩ ++ x).size = x.size + 4 + x.size := by rw [ByteArray.size_append, z2]
        go_wp2_with fail
        exact ⟨⟨j + 1, by omega, by rw [unhide htk], by rw [unhide hN], by go_num⟩, by simp [intOf]; omega⟩
    · obtain rfl : j = K := by omega
      have hP := deepP_eq wd j
      have hpz : (deepP wd j).size ≤ 1000000 := by rw [← hP, ByteArray.size_append, ByteArray.size_append]; show 8 + (deepB wd j).size + 11 ≤ _; omega
      have cE := parseE_c (deepB wd j) (by omega) W1 (unhide V1).v (unhide V1).s (unhide V1).p
      rw [e1] at cE
      have cP := fun (U : World) (h : V9 U) => parseP_c (deepP wd j) hpz U h.v h.s h.p
      rw [e2] at cP
      generalize (exprF (readP (deepB wd j))).1 = TT at cE
      generalize (patF (readP (deepP wd j))).1 = QQ at cP
      rw [← hP] at cP
      have z1 : ((⟨#[83, 69, 81, 40, 97, 58, 116, 91]⟩ : ByteArray) ++ deepB wd j).size = (deepB wd j).size + 8 := by rw [ByteArray.size_append]; show 8 + (deepB wd j).size = _; omega
      have hcase : (deepE wd j = 0 ∧ (j : Int) + 1 ≤ 5 ∧ deepN wd j ≤ 24) ∨ (deepE wd j = 12 ∧ ¬ (j : Int) + 1 ≤ 5) ∨ (deepE wd j = 12 ∧ (j : Int) + 1 ≤ 5 ∧ ¬ deepN wd j ≤ 24) := by
        unfold deepE deepOk
        by_cases g1 : j + 1 ≤ 5
        · by_cases g2 : deepN wd j ≤ 24
          · exact .inl ⟨by simp [g1, g2], by omega, g2⟩
          · exact .inr (.inr ⟨by simp [g2], by omega, g2⟩)
        · exact .inr (.inl ⟨by simp [g1], by omega⟩)
      clear e1 e2 hP hpz hm0 hlt
      generalize deepE wd j = E at cE cP hcase
      generalize deepB wd j = x at cE cP z1 hxs ⊢
      generalize deepN wd j = m at hcase hm1 ⊢
      rcases hcase with ⟨rfl, h5, hm⟩ | ⟨rfl, h5⟩ | ⟨rfl, h5, hm⟩
      · rw [errO_zero] at cE cP
        have CE := hide cE
        have CP := hide cP
        clear cE cP
        go_wp2_with fail
        refine (unhide CE).mono ?_
        rintro r W2 ⟨v, rfl, ⟨a, c, rfl, -⟩, b2⟩
        obtain ⟨X2, hX2⟩ : ∃ X, X = W2.alloc (.cells (Dat.cs TT.dat a TT.kids.length c) 27) := ⟨_, rfl⟩
        have d2 : Below W2.heap.size W2 X2 := by rw [hX2]; exact (Below.refl _ _).alloc (Nat.le_refl _) _
        have b12 := b1.trans (b2.mono b1.size)
        have e12 := b12.trans (d2.mono b12.size)
        have V2 := (unhide V1).on (b2.trans (d2.mono b2.size))
        have C2 := hide (unhide CP X2 V2)
        have BB := hide e12
        clear CE CP b2 d2 b12 e12 V2
        go_upto_region 12 with fail
        rw [← hX2]
        clear hX2
        go_wp2_with fail
        refine (unhide C2).mono ?_
        rintro r W3 ⟨v, rfl, ⟨a3, c3, rfl, -, -⟩, b3⟩
        obtain ⟨X3, hX3⟩ : ∃ X, X = W3.alloc (.cells (Pt.cs QQ a3 c3) 36) := ⟨_, rfl⟩
        have d3 : Below W3.heap.size W3 X3 := by rw [hX3]; exact (Below.refl _ _).alloc (Nat.le_refl _) _
        have b13 := (unhide BB).trans (b3.mono (unhide BB).size)
        have FF := hide (b13.trans (d3.mono b13.size))
        clear C2 BB b3 d3 b13
        go_upto_region 13 with fail
        rw [← hX3]
        clear hX3
        go_wp2_with fail
        go_ret
        exact ⟨rfl, unhide FF⟩
      · rw [errO_ne (show (12 : Int) ≠ 0 by decide)] at cE cP
        have CE := hide cE
        have CP := hide cP
        clear cE cP
        go_wp2_with fail
        refine (unhide CE).mono ?_
        rintro r W2 ⟨v, rfl, ⟨a, c, rfl, -⟩, b2⟩
        obtain ⟨X2, hX2⟩ : ∃ X, X = W2.alloc (.cells (Dat.cs TT.dat a TT.kids.length c) 27) := ⟨_, rfl⟩
        have d2 : Below W2.heap.size W2 X2 := by rw [hX2]; exact (Below.refl _ _).alloc (Nat.le_refl _) _
        have b12 := b1.trans (b2.mono b1.size)
        have e12 := b12.trans (d2.mono b12.size)
        have V2 := (unhide V1).on (b2.trans (d2.mono b2.size))
        have C2 := hide (unhide CP X2 V2)
        have BB := hide e12
        clear CE CP b2 d2 b12 e12 V2
        go_upto_region 12 with fail
        rw [← hX2]
        clear hX2
        go_wp2_with fail
        refine (unhide C2).mono ?_
        rintro r W3 ⟨v, rfl, ⟨a3, c3, rfl, -, -⟩, b3⟩
        obtain ⟨X3, hX3⟩ : ∃ X, X = W3.alloc (.cells (Pt.cs QQ a3 c3) 36) := ⟨_, rfl⟩
        have d3 : Below W3.heap.size W3 X3 := by rw [hX3]; exact (Below.refl _ _).alloc (Nat.le_refl _) _
        have b13 := (unhide BB).trans (b3.mono (unhide BB).size)
        have FF := hide (b13.trans (d3.mono b13.size))
        clear C2 BB b3 d3 b13
        go_upto_region 13 with fail
        rw [← hX3]
        clear hX3
        go_wp2_with fail
        refine (errIs_c 12 12 _).mono ?_
        rintro r w ⟨rfl, rfl⟩
        go_wp2_with fail
        refine (errIs_c 12 12 _).mono ?_
        rintro r w ⟨rfl, rfl⟩
        go_wp2_with fail
        go_ret
        exact ⟨rfl, unhide FF⟩
      · rw [errO_ne (show (12 : Int) ≠ 0 by decide)] at cE cP
        have CE := hide cE
        have CP := hide cP
        clear cE cP
        go_wp2_with fail
        refine (unhide CE).mono ?_
        rintro r W2 ⟨v, rfl, ⟨a, c, rfl, -⟩, b2⟩
        obtain ⟨X2, hX2⟩ : ∃ X, X = W2.alloc (.cells (Dat.cs TT.dat a TT.kids.length c) 27) := ⟨_, rfl⟩
        have d2 : Below W2.heap.size W2 X2 := by rw [hX2]; exact (Below.refl _ _).alloc (Nat.le_refl _) _
        have b12 := b1.trans (b2.mono b1.size)
        have e12 := b12.trans (d2.mono b12.size)
        have V2 := (unhide V1).on (b2.trans (d2.mono b2.size))
        have C2 := hide (unhide CP X2 V2)
        have BB := hide e12
        clear CE CP b2 d2 b12 e12 V2
        go_upto_region 12 with fail
        rw [← hX2]
        clear hX2
        go_wp2_with fail
        refine (unhide C2).mono ?_
        rintro r W3 ⟨v, rfl, ⟨a3, c3, rfl, -, -⟩, b3⟩
        obtain ⟨X3, hX3⟩ : ∃ X, X = W3.alloc (.cells (Pt.cs QQ a3 c3) 36) := ⟨_, rfl⟩
        have d3 : Below W3.heap.size W3 X3 := by rw [hX3]; exact (Below.refl _ _).alloc (Nat.le_refl _) _
        have b13 := (unhide BB).trans (b3.mono (unhide BB).size)
        have FF := hide (b13.trans (d3.mono b13.size))
        clear C2 BB b3 d3 b13
        go_upto_region 13 with fail
        rw [← hX3]
        clear hX3
        go_wp2_with fail
        refine (errIs_c 12 12 _).mono ?_
        rintro r w ⟨rfl, rfl⟩
        go_wp2_with fail
        refine (errIs_c 12 12 _).mono ?_
        rintro r w ⟨rfl, rfl⟩
        go_wp2_with fail
        go_ret
        exact ⟨rfl, unhide FF⟩
end Go.Proofs.YtmhpakhnclkenaaGreatDoor
