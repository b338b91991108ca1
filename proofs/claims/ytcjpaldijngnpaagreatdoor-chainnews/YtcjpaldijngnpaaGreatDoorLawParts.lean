/-
  The walk of ChainParts: true for every schema, row of changes, event and number, in whatever world where the library's variable stands as its text lays it; nothing that lay is turned.
-/
import Derived.Test.YtcjpaldijngnpaaGreatDoorLawKnown
import Derived.Test.YtcjpaldijngnpaaGreatDoorAs
import Derived.Test.YtcjpaldijngnpaaGreatDoorRefIs
import Derived.Test.YtcjpaldijngnpaaGreatDoorRefEv
import Derived.Test.YtcjpaldijngnpaaGreatDoorRefSch
namespace Go.Proofs.YtcjpaldijngnpaaGreatDoor
open Go.RowKit Go.Shelf

theorem new_got {n : Nat} {ts : List Ty} {ls : List Ch} {e : Ending} {W : World} (hS : Sch ts) (h0 : addAll ts [] ls = 0) (h : Hid ((¬ Sch ts ∧ NewLeft 10 n ts ls e W) ∨ (Sch ts ∧ NewLeft (addAll ts [] ls) n ts ls e W))) :
    ∃ (Bp : Nat) (a' ac : Option Addr) (cap capc : Nat), e = .returned (.tuple #[.pointer (some ⟨Bp, 0, none⟩), .nilIface]) ∧ n ≤ Bp ∧ IsCh W.heap.size W Bp a' ac cap capc ts ls := by
  rcases unhide h with ⟨hno, -⟩ | ⟨-, hN2⟩
  · exact absurd hS hno
  rw [h0] at hN2
  rcases hN2 with ⟨-, Bp, a', ac, cap, capc, e, hBp, -, C⟩ | ⟨h, -⟩
  · exact ⟨Bp, a', ac, cap, capc, e, hBp, C⟩
  · exact absurd rfl h
theorem new_no {n : Nat} {ts : List Ty} {ls : List Ch} {e : Ending} {W : World} (hS : ¬ Sch ts) (h : Hid ((¬ Sch ts ∧ NewLeft 10 n ts ls e W) ∨ (Sch ts ∧ NewLeft (addAll ts [] ls) n ts ls e W))) : e = .returned (.tuple #[.pointer none, errV 10]) := by
  rcases unhide h with ⟨-, h0⟩ | ⟨hno, -⟩
  · rcases h0 with ⟨h0, -⟩ | ⟨-, h0⟩
    · exact absurd h0 (by decide)
    · exact h0
  · exact absurd hno hS
theorem add_any {Bp cap capc : Nat} {a ac : Option Addr} {ts : List Ty} {cs : List Ch} {c : Ch} {W : World} (h : AddLeft (addR ts cs c) Bp cap capc a ac ts cs c W) (h20 : cs.length ≤ 20) : ∃ cs' ac' capc', cs'.length ≤ 20 ∧ IsCh W.heap.size W Bp a ac' cap capc' ts cs' := by
  unfold AddLeft at h
  split at h
  · next h0 =>
    obtain ⟨ac', capc', C⟩ := h
    exact ⟨_, ac', capc', by have := addR_len h0; rw [List.length_append, List.length_singleton]; omega, C⟩
  · exact ⟨cs, ac, capc, h20, h⟩
theorem spans_nat {cs : List Ch} {k m : Nat} (hk : k ≤ m) (hm : m ≤ cs.length) : spansB cs k m = true := by
  unfold spansB
  simp only [Bool.and_eq_true, decide_eq_true_eq]
  omega
theorem mv_good {ts : List Ty} {cs : List Ch} {x : Ev} {f g : Int} {k m j : Nat} (hf : f = k) (hg : g = m) (hj : m = k + j) (hm : m ≤ cs.length) (hi : isE (vers ts cs k) x = 0) {base : Nat} {e : Ending} {W : World} (h : MoveAns ts cs x f g base e W) :
    ∃ a' c', e = .returned (.tuple #[.agg #[.string x.ty.1, .int .i64 x.ts, .slice a' (mvK ts cs k x j).vs.length c'], .nilIface]) ∧ Vals W.heap.size W a' (mvK ts cs k x j).vs := by
  subst hf hg
  rcases h with ⟨h, -⟩ | ⟨-, h, -⟩ | ⟨-, -, a', c', e, ho⟩
  · rw [spans_nat (by omega) hm] at h; cases h
  · exact absurd hi h
  · rw [Int.toNat_natCast, Int.toNat_natCast, show m - k = j by omega] at e ho
    obtain ⟨a2, c2, e2, hV, -⟩ := vals_of_owns ho
    simp only [Value.slice.injEq, true_and] at e2
    rw [← e2.1] at hV
    exact ⟨a', c', e, hV⟩
theorem mv_bad {ts : List Ty} {cs : List Ch} {x : Ev} {f g : Int} {k m : Nat} (hf : f = k) (hg : g = m) (hj : k ≤ m) (hm : m ≤ cs.length) (hi : isE (vers ts cs k) x ≠ 0) {base : Nat} {e : Ending} {W : World} (h : MoveAns ts cs x f g base e W) :
    e = .returned (.tuple #[noEv, errV (isE (vers ts cs k) x)]) := by
  subst hf hg
  rcases h with ⟨h, -⟩ | ⟨-, -, e⟩ | ⟨-, h, -⟩
  · rw [spans_nat (by omega) hm] at h; cases h
  · rw [Int.toNat_natCast, errE_no hi] at e
    exact e
  · exact absurd h hi
theorem at_good {ts : List Ty} {cs : List Ch} {v : Int} {m : Nat} (hv : v = m) (hm : m ≤ cs.length) (hS : Sch ts) {base : Nat} {e : Ending} {W : World} (h : AtAns ts cs v base e W) :
    ∃ a' c', e = .returned (.tuple #[.agg #[.slice a' (vers ts cs m).length c'], .bool true]) ∧ Typs W.heap.size W a' (vers ts cs m) := by
  subst hv
  rcases h with ⟨k, a', c', hk, -, e, hO⟩ | ⟨h, -⟩
  · obtain rfl : k = m := by omega
    exact ⟨a', c', e, hO.typs (sch_max (sch_vers hS cs k))⟩
  · omega
theorem movE_no {ts : List Ty} {c : Ch} (x : Ev) (h : refE ts c ≠ 0) : movE ts c x = x := by
  unfold movE
  split
  · rfl
  · rw [if_neg (fun h' => h h'.1)]
theorem isE_app {ts : List Ty} {c : Ch} {x : Ev} (hS : Sch ts) (hi : isE ts x = 0) : isE (appT ts c) (movE ts c x) = 0 := by
  unfold appT
  split
  · next h => exact isE_new hS h hi
  · next h => rw [movE_no x h]; exact hi
/-- An event of a version is, moved, one of the later version. -/
theorem isE_mv {ts : List Ty} (hS : Sch ts) (cs : List Ch) (k : Nat) {x : Ev} (hi : isE (vers ts cs k) x = 0) : ∀ j, k + j ≤ cs.length → isE (vers ts cs (k + j)) (mvK ts cs k x j) = 0
  | 0, _ => hi
  | j + 1, h => by
    rw [← Nat.add_assoc, vers_succ ts cs (by omega), mvK]
    exact isE_app (sch_vers hS cs _) (isE_mv hS cs k hi j (by omega))
/-- Moved by parts. -/
theorem mvK_add (ts : List Ty) (cs : List Ch) (k i : Nat) (x : Ev) : ∀ j, mvK ts cs (k + i) (mvK ts cs k x i) j = mvK ts cs k x (i + j)
  | 0 => rfl
  | j + 1 => by rw [mvK, mvK_add ts cs k i x j, ← Nat.add_assoc, mvK, Nat.add_assoc]
theorem zip_same : ∀ (l : List Vl) (p : Vl × Vl), p ∈ l.zip l → p.1 = p.2
  | [], _, h => by cases h
  | v :: l, p, h => by
    rcases List.mem_cons.1 h with rfl | h
    · rfl
    · exact zip_same l p h
theorem samesV_self (vs : List Vl) : samesV vs vs = true := by
  unfold samesV
  rw [List.all_eq_true]
  intro p hp
  have := zip_same vs p hp
  simp [sameV, this]
theorem sameE_self (x : Ev) : sameE x x = true := by simp [sameE, sameVs, samesV_self]
theorem mv_eta (ts : List Ty) (cs : List Ch) (k j : Nat) (x : Ev) : (⟨x.ty, x.ts, (mvK ts cs k x j).vs⟩ : Ev) = mvK ts cs k x j := by
  rw [← mvK_ty ts cs k x j, ← mvK_ts ts cs k x j]

set_option maxRecDepth 100000 in
set_option maxHeartbeats 8000000 in
theorem parts_c (a al av : Option Addr) (cap capl cv : Nat) (ts : List Ty) (ls : List Ch) (x : Ev) (md : Int) (hm : ts.length ≤ maxLen) (hmd0 : 0 ≤ md) (hmd1 : md ≤ 255) (w : World) (hg : w.cell? ⟨0, 0, none⟩ = some (.iface 144 (.agg #[.pointer (some ⟨1, 33, none⟩)]))) (hT : Typs w.heap.size w a ts) (hL : Chs w.heap.size w al ls) (hV : Vals w.heap.size w av x.vs) :
    Calls Tryz.prog 5 #[.agg #[.slice a ts.length cap], .slice al ls.length capl, .agg #[.string x.ty.1, .int .i64 x.ts, .slice av x.vs.length cv], .int .u8 md] w fun e w' => e = .returned (.bool true) ∧ Below w.heap.size w w' := by
  have hw0 : 0 < w.heap.size := by
    rcases Nat.eq_zero_or_pos w.heap.size with h0 | h
    · simp [World.cell?, h0] at hg
    · exact h
  have hgB : ∀ W, Below w.heap.size w W → W.cell? ⟨0, 0, none⟩ = some (.iface 144 (.agg #[.pointer (some ⟨1, 33, none⟩)])) := fun W hb => (hb.cell (p := ⟨0, 0, none⟩) hw0).trans hg
  replace hgB := hide hgB
  obtain ⟨W0, hW0⟩ : ∃ W0, W0 = (w.alloc (.cells #[.slice a ts.length cap] 24)).alloc (.cells #[.string x.ty.1, .int .i64 x.ts, .slice av x.vs.length cv] 28) := ⟨_, rfl⟩
  have b0 : Below w.heap.size w W0 := by rw [hW0]; exact ((Below.refl _ _).alloc (Nat.le_refl _) _).alloc (by simp) _
  have x4 : Box W0 w.heap.size 24 #[.slice a ts.length cap] := by rw [hW0]; exact (Box.new w 24 #[.slice a ts.length cap]).alloc _
  have x6 : Box W0 (w.heap.size + 1) 28 #[.string x.ty.1, .int .i64 x.ts, .slice av x.vs.length cv] := by
    have := Box.new (w.alloc (.cells #[.slice a ts.length cap] 24)) 28 #[.string x.ty.1, .int .i64 x.ts, .slice av x.vs.length cv]
    simp only [World.size_alloc] at this
    rw [hW0]; exact this
  have cK := hide (known_c W0)
  clear hg
  go_enter Tryz.func5, Tryz.ntmps5
  go_upto_region 1 with fail
  rw [← hW0]
  clear hW0
  go_wp2_with fail
  refine (unhide cK).mono ?_
  rintro e w1 ⟨rfl, hb1⟩
  clear cK
  have bw1 := b0.trans (hb1.mono b0.size)
  have y4 := x4.on hb1 x4.lt
  have y6 := x6.on hb1 x6.lt
  clear x4 x6 b0 hb1
  obtain ⟨he0, he1, he2⟩ := y6.three
  by_cases hl20 : ls.length ≤ 20
  case neg =>
    have hl20' : (20 : Int) < ls.length := by omega
    go_wp2_with fail
    go_ret
    exact ⟨rfl, bw1⟩
  have hl20' : (ls.length : Int) ≤ 20 := by omega
  by_cases hv20 : x.vs.length ≤ 20
  case neg =>
    have hv20' : (20 : Int) < x.vs.length := by omega
    go_wp2_with fail
    go_ret
    exact ⟨rfl, bw1⟩
  have hv20' : (x.vs.length : Int) ≤ 20 := by omega
  have hs := y4.one.1
  have T1 := hT.on bw1
  have cN := hide (new_c a none cap 0 ts [] hm (by decide) w1 T1 (.inl rfl))
  go_wp2_with fail
  refine (unhide cN).mono ?_
  rintro e w2 ⟨hb2, hN⟩
  clear cN hs he0 he1 he2
  by_cases hS : Sch ts
  case neg =>
    obtain rfl := new_no hS hN
    have hs := (y4.on hb2 y4.lt).one.1
    have cS := hide (refSch_c a cap ts hm w2 (T1.on hb2))
    have bw2 := bw1.trans (hb2.mono bw1.size)
    go_wp2_with fail
    refine (unhide cS).mono ?_
    rintro e w3 ⟨B, rfl, hb3, hB⟩
    obtain rfl : B = false := by
      cases B
      · rfl
      · exact absurd ((unhide hB).1 rfl) hS
    go_wp2_with fail
    go_ret
    exact ⟨rfl, bw2.trans (hb3.mono bw2.size)⟩
  obtain ⟨Bp, a', ac, cap', capc, rfl, hBp, C2⟩ := new_got hS (show addAll ts [] [] = 0 from rfl) hN
  clear hN
  have C2h := hide (show ∃ (cs : List Ch) (ac : Option Addr) (capc : Nat), cs.length ≤ 20 ∧ IsCh w2.heap.size w2 Bp a' ac cap' capc ts cs from ⟨[], ac, capc, by decide, C2⟩)
  clear C2
  go_wp2_with fail
  go_loopw [11] (fun iv wr => ∃ i : Nat, i ≤ ls.length ∧ iv = .int .i64 i ∧ Hid (∃ (cs : List Ch) (ac : Option Addr) (capc : Nat), cs.length ≤ 20 ∧ IsCh wr.heap.size wr Bp a' ac cap' capc ts cs) ∧ Below w1.heap.size w1 wr) (fun i _ => ls.length - (intOf i).toNat)
  case atStart => exact ⟨0, Nat.zero_le _, rfl, C2h, hb2⟩
  case round =>
    obtain ⟨i, hi, rfl, hC, hb⟩ := hrel
    obtain ⟨cs, ac, capc, h20, C⟩ := unhide hC
    clear hC C2h hb2
    have bwr := bw1.trans (hb.mono bw1.size)
    by_cases hlt : i < ls.length
    · have hlt' : (i : Int) < ls.length := by omega
      obtain ⟨b, off, eal, hbl, hcs⟩ : ∃ b off, al = some ⟨b, off, none⟩ ∧ b < w.heap.size ∧ ∀ (j : Nat) u, (chn ls i).cs[j]? = some u → wr.cell? ⟨b, off + i * 7 + j, none⟩ = some u := by
        rcases hL.below bwr with h | ⟨b, off, e, hb, hc⟩
        · rw [h] at hlt; simp at hlt
        · exact ⟨b, off, e, hb, hc i hlt⟩
      obtain ⟨c, hc⟩ : ∃ c, c = chn ls i := ⟨_, rfl⟩
      rw [← hc] at hcs
      clear hc
      have hd0 := hcs 0 _ rfl
      have hd1 := hcs 1 _ rfl
      have hd2 := hcs 2 _ rfl
      have hd3 := hcs 3 _ rfl
      have hd4 := hcs 4 _ rfl
      have hd5 := hcs 5 _ rfl
      have hd6 := hcs 6 _ rfl
      rw [Nat.add_zero] at hd0
      clear hcs
      subst eal
      have cA := hide (add_c Bp cap' capc a' ac ts cs c hS h20 wr C)
      obtain ⟨r, hr⟩ : ∃ r, r = addR ts cs c := ⟨_, rfl⟩
      rw [← hr] at cA
      replace hr := hide hr
      clear C
      go_wp2_with fail
      refine (unhide cA).mono ?_
      rintro e w5 ⟨rfl, hleft, -, hbel⟩
      clear cA hd0 hd1 hd2 hd3 hd4 hd5 hd6
      have b5 := hb.trans (hbel w1.heap.size hBp)
      rw [unhide hr] at hleft
      have C5 := hide (add_any hleft h20)
      clear hleft hbel hr
      go_wp2_with fail
      exact ⟨⟨i + 1, by omega, by go_num, C5, b5⟩, by simp [intOf]; omega⟩
    · obtain rfl : i = ls.length := by omega
      obtain ⟨m, hml⟩ : ∃ m, m = cs.length := ⟨_, rfl⟩
      have hmc : m ≤ cs.length := by omega
      have hm20 : (m : Int) ≤ 20 := by omega
      have cW := hide (now_c Bp cap' capc a' ac ts cs wr C)
      rw [← hml] at cW
      clear hml
      have z6 := y6.on hb y6.lt
      obtain ⟨he0, he1, he2⟩ := z6.three
      have V := hV.on bwr
      clear hb y6 y4 T1
      go_wp2_with fail
      refine (unhide cW).mono ?_
      rintro e w9 ⟨rfl, ew⟩
      rw [ew]
      clear ew w9 cW
      by_cases hm0 : 0 < m
      · have hm0' : (0 : Int) < m := by omega
        have hk0 : 0 ≤ md % ((m : Int) + 1) := Int.emod_nonneg _ (by omega)
        have hk1 : md % ((m : Int) + 1) < (m : Int) + 1 := Int.emod_lt_of_pos _ (by omega)
        obtain ⟨k, hkm, hk⟩ : ∃ k : Nat, k ≤ m ∧ md % ((m : Int) + 1) = k := ⟨(md % ((m : Int) + 1)).toNat, by omega, by omega⟩
        clear hk0 hk1
        go_upto_region 16 with fail
        rw [hk]
        clear hk hm0 hm0'
        obtain ⟨j, hj⟩ : ∃ j, m = k + j := ⟨m - k, by omega⟩
        have hj' := hide hj
        clear hj
        have cM := hide (chMove_c Bp cap' capc a' ac ts cs x.ty x.ts x.vs av cv 0 m hS h20 hv20 wr C V)
        go_wp2_with fail
        refine (unhide cM).mono ?_
        rintro e w3 ⟨hma, hb3⟩
        clear cM he0 he1 he2
        have bw3 := bwr.trans (hb3.mono bwr.size)
        have u6 := z6.on hb3 z6.lt
        have V3 := V.on hb3
        have C3 := (C.on hb3).mono hb3.size
        by_cases hi0 : isE ts x = 0
        · obtain ⟨a3, c3, rfl, U3⟩ := mv_good (k := 0) (j := m) rfl rfl (by omega) hmc hi0 hma
          obtain ⟨y1, hy1⟩ : ∃ y, y = mvK ts cs 0 x m := ⟨_, rfl⟩
          rw [← hy1] at U3 ⊢
          replace hy1 := hide hy1
          obtain ⟨w4, hw4⟩ : ∃ w4, w4 = w3.alloc (.cells #[.string x.ty.1, .int .i64 x.ts, .slice a3 y1.vs.length c3] 28) := ⟨_, rfl⟩
          have b4 : Below w3.heap.size w3 w4 := by rw [hw4]; exact (Below.refl _ _).alloc (Nat.le_refl _) _
          have xa : Box w4 w3.heap.size 28 #[.string x.ty.1, .int .i64 x.ts, .slice a3 y1.vs.length c3] := by rw [hw4]; exact Box.new _ _ _
          have bw4 := bw3.trans (b4.mono bw3.size)
          have U4 := U3.on b4
          have C4 := (C3.on b4).mono b4.size
          have V4 := V3.on b4
          obtain ⟨he0, he1, he2⟩ := (u6.on b4 u6.lt).three
          clear hma hb3 bw3 u6 V3 C3 U3 b4 bwr z6 V C
          replace hw4 := hide hw4
          go_upto_region 17 with fail
          rw [← unhide hw4]
          clear hw4
          have cM := hide (chMove_c Bp cap' capc a' ac ts cs x.ty x.ts x.vs av cv 0 k hS h20 hv20 w4 C4 V4)
          go_wp2_with fail
          refine (unhide cM).mono ?_
          rintro e w5 ⟨hma, hb5⟩
          clear cM he0 he1 he2
          obtain ⟨a5, c5, rfl, U5⟩ := mv_good (k := 0) (m := k) (j := k) rfl rfl (by omega) (by omega) hi0 hma
          obtain ⟨y2, hy2⟩ : ∃ y, y = mvK ts cs 0 x k := ⟨_, rfl⟩
          rw [← hy2] at U5 ⊢
          replace hy2 := hide hy2
          obtain ⟨w6, hw6⟩ : ∃ w6, w6 = w5.alloc (.cells #[.string x.ty.1, .int .i64 x.ts, .slice a5 y2.vs.length c5] 28) := ⟨_, rfl⟩
          have b6 : Below w5.heap.size w5 w6 := by rw [hw6]; exact (Below.refl _ _).alloc (Nat.le_refl _) _
          have xb : Box w6 w5.heap.size 28 #[.string x.ty.1, .int .i64 x.ts, .slice a5 y2.vs.length c5] := by rw [hw6]; exact Box.new _ _ _
          have bw5 := bw4.trans (hb5.mono bw4.size)
          have bw6 := bw5.trans (b6.mono bw5.size)
          have U6 := U5.on b6
          have UA6 := (U4.on hb5).on b6
          have C5 := (C4.on hb5).mono hb5.size
          have C6 := (C5.on b6).mono b6.size
          have xa5 := xa.on hb5 xa.lt
          have xa6 := xa5.on b6 xa5.lt
          obtain ⟨hf0, hf1, hf2⟩ := xb.three
          clear hma hb5 bw4 bw5 U4 U5 C4 C5 V4 xa xa5 b6
          replace hw6 := hide hw6
          go_upto_region 18 with fail
          rw [← unhide hw6]
          clear hw6
          have hz2 : (⟨x.ty, x.ts, y2.vs⟩ : Ev) = y2 := by rw [unhide hy2]; exact mv_eta ts cs 0 _ x
          have hz1 : (⟨x.ty, x.ts, y1.vs⟩ : Ev) = y1 := by rw [unhide hy1]; exact mv_eta ts cs 0 _ x
          have hl2 : y2.vs.length ≤ 20 := by rw [unhide hy2]; exact mvK_len hS cs 0 hv20 _
          have hl1 : y1.vs.length ≤ 20 := by rw [unhide hy1]; exact mvK_len hS cs 0 hv20 _
          have hi2 : isE (vers ts cs k) ⟨x.ty, x.ts, y2.vs⟩ = 0 := by
            rw [hz2, unhide hy2]
            have := isE_mv hS cs 0 hi0 k (by omega)
            rwa [Nat.zero_add] at this
          have hi1 : isE (vers ts cs m) ⟨x.ty, x.ts, y1.vs⟩ = 0 := by
            rw [hz1, unhide hy1]
            have := isE_mv hS cs 0 hi0 m (by omega)
            rwa [Nat.zero_add] at this
          have h21 : mvK ts cs k ⟨x.ty, x.ts, y2.vs⟩ j = y1 := by
            rw [hz2, unhide hy2, unhide hy1, unhide hj']
            have := mvK_add ts cs 0 k x j
            rwa [Nat.zero_add] at this
          replace hz2 := hide hz2
          replace hz1 := hide hz1
          replace hi1 := hide hi1
          replace hi2 := hide hi2
          replace h21 := hide h21
          have cM := hide (chMove_c Bp cap' capc a' ac ts cs x.ty x.ts y2.vs a5 c5 k m hS h20 hl2 w6 C6 U6)
          go_wp2_with fail
          refine (unhide cM).mono ?_
          rintro e w7 ⟨hma, hb7⟩
          clear cM hf0 hf1 hf2
          obtain ⟨a7, c7, rfl, U7⟩ := mv_good (k := k) (j := j) rfl rfl (unhide hj') hmc (unhide hi2) hma
          rw [unhide h21] at U7 ⊢
          obtain ⟨w8, hw8⟩ : ∃ w8, w8 = w7.alloc (.cells #[.string x.ty.1, .int .i64 x.ts, .slice a7 y1.vs.length c7] 28) := ⟨_, rfl⟩
          have b8 : Below w7.heap.size w7 w8 := by rw [hw8]; exact (Below.refl _ _).alloc (Nat.le_refl _) _
          have xd : Box w8 w7.heap.size 28 #[.string x.ty.1, .int .i64 x.ts, .slice a7 y1.vs.length c7] := by rw [hw8]; exact Box.new _ _ _
          have bw7 := bw6.trans (hb7.mono bw6.size)
          have bw8 := bw7.trans (b8.mono bw7.size)
          have UD8 := U7.on b8
          have UA8 := (UA6.on hb7).on b8
          have C7 := (C6.on hb7).mono hb7.size
          have C8 := (C7.on b8).mono b8.size
          have xa7 := xa6.on hb7 xa6.lt
          have xa8 := xa7.on b8 xa7.lt
          clear hma hb7 bw6 bw7 UA6 U6 U7 C6 C7 xa6 xa7 xb b8
          replace hw8 := hide hw8
          go_upto_region 21 with fail
          rw [← unhide hw8]
          clear hw8
          have cT := hide (at_c Bp cap' capc a' ac ts cs m hS h20 w8 C8)
          go_wp2_with fail
          refine (unhide cT).mono ?_
          rintro e w9 ⟨hat, hb9⟩
          clear cT
          obtain ⟨a9, c9, rfl, T9⟩ := at_good rfl hmc hS hat
          obtain ⟨vm, hvm⟩ : ∃ vm, vm = vers ts cs m := ⟨_, rfl⟩
          have hSm := sch_vers hS cs m
          have hi1 := hide (show isE vm ⟨x.ty, x.ts, y1.vs⟩ = 0 by rw [hvm]; exact unhide hi1)
          rw [← hvm] at T9 hSm ⊢
          obtain ⟨w10, hw10⟩ : ∃ w10, w10 = w9.alloc (.cells #[.slice a9 vm.length c9] 24) := ⟨_, rfl⟩
          have b10 : Below w9.heap.size w9 w10 := by rw [hw10]; exact (Below.refl _ _).alloc (Nat.le_refl _) _
          have xt : Box w10 w9.heap.size 24 #[.slice a9 vm.length c9] := by rw [hw10]; exact Box.new _ _ _
          have bw9 := bw8.trans (hb9.mono bw8.size)
          have bw10 := bw9.trans (b10.mono bw9.size)
          have UD10 := (UD8.on hb9).on b10
          have UA10 := (UA8.on hb9).on b10
          have T10 := T9.on b10
          have xa9 := xa8.on hb9 xa8.lt
          have xa10 := xa9.on b10 xa9.lt
          have xd9 := xd.on hb9 xd.lt
          have xd10 := xd9.on b10 xd9.lt
          obtain ⟨hp0, hp1, hp2⟩ := xa10.three
          obtain ⟨hq0, hq1, hq2⟩ := xd10.three
          clear hat hb9 bw8 bw9 UD8 UA8 T9 xa8 xa9 xd xd9 b10 C8 hvm
          replace hw10 := hide hw10
          go_upto_region 22 with fail
          rw [← unhide hw10]
          clear hw10
          have cS := hide (refSame_c ⟨x.ty, x.ts, y1.vs⟩ ⟨x.ty, x.ts, y1.vs⟩ a3 a7 c3 c7 hl1 hl1 w10 UA10 UD10)
          rw [sameE_self] at cS
          go_wp2_with fail
          refine (unhide cS).mono ?_
          rintro e w11 ⟨rfl, hb11⟩
          clear cS hp0 hp1 hp2 hq0 hq1 hq2
          have bw11 := bw10.trans (hb11.mono bw10.size)
          have ht0 := (xt.on hb11 xt.lt).one.1
          obtain ⟨hp0, hp1, hp2⟩ := (xa10.on hb11 xa10.lt).three
          have cI := hide (refIsE_c a9 a3 c9 c3 vm ⟨x.ty, x.ts, y1.vs⟩ hSm.1 (sch_hk5 hSm) hl1 w11 (T10.on hb11) (UA10.on hb11))
          rw [unhide hi1] at cI
          go_wp2_with fail
          refine (unhide cI).mono ?_
          rintro e w12 ⟨rfl, hb12⟩
          clear cI
          have bw12 := bw11.trans (hb12.mono bw11.size)
          go_wp2_with fail
          go_ret
          exact ⟨rfl, bw12⟩
        · have hma' := mv_bad (k := 0) rfl rfl (Nat.zero_le _) hmc hi0 hma
          obtain rfl := hma'
          obtain ⟨r, hr⟩ : ∃ r, r = isE (vers ts cs 0) ⟨x.ty, x.ts, x.vs⟩ := ⟨_, rfl⟩
          rw [← hr]
          have hi0' : isE (vers ts cs 0) ⟨x.ty, x.ts, x.vs⟩ ≠ 0 := hi0
          replace hr := hide hr
          obtain ⟨w4, hw4⟩ : ∃ w4, w4 = w3.alloc (.cells #[.string ⟨#[]⟩, .int .i64 0, .slice none 0 0] 28) := ⟨_, rfl⟩
          have b4 : Below w3.heap.size w3 w4 := by rw [hw4]; exact (Below.refl _ _).alloc (Nat.le_refl _) _
          have bw4 := bw3.trans (b4.mono bw3.size)
          have C4 := (C3.on b4).mono b4.size
          have V4 := V3.on b4
          obtain ⟨he0, he1, he2⟩ := (u6.on b4 u6.lt).three
          clear hma hb3 bw3 u6 V3 C3 b4 bwr z6 V C
          replace hi0 := hide hi0
          replace hi0' := hide hi0'
          replace hw4 := hide hw4
          go_upto_region 17 with fail
          rw [← unhide hw4]
          clear hw4
          have cM := hide (chMove_c Bp cap' capc a' ac ts cs x.ty x.ts x.vs av cv 0 k hS h20 hv20 w4 C4 V4)
          go_wp2_with fail
          refine (unhide cM).mono ?_
          rintro e w5 ⟨hma, hb5⟩
          clear cM he0 he1 he2
          have hma' := mv_bad (k := 0) (m := k) rfl rfl (by omega) (by omega) (unhide hi0') hma
          obtain rfl := hma'
          rw [← unhide hr]
          have bw5 := bw4.trans (hb5.mono bw4.size)
          have bw6 := bw5.alloc bw5.size (.cells #[.string ⟨#[]⟩, .int .i64 0, .slice none 0 0] 28)
          have hg6 := unhide hgB _ bw6
          clear hma C4 V4 hb5 bw4
          go_wp2_with fail
          refine (code_c r _ hg6).mono ?_
          rintro e w7 ⟨rfl, hb7⟩
          have bw7 := bw6.trans (hb7.mono bw6.size)
          have hg7 := unhide hgB _ bw7
          go_wp2_with fail
          refine (code_c r _ hg7).mono ?_
          rintro e w8 ⟨rfl, hb8⟩
          have bw8 := bw7.trans (hb8.mono bw7.size)
          go_wp2_with fail
          go_ret
          exact ⟨rfl, bw8⟩
      · have hm0' : (m : Int) ≤ 0 := by omega
        have hkm : 0 ≤ m := Nat.zero_le _
        go_upto_region 16 with fail
        clear hm0'
        obtain ⟨j, hj⟩ : ∃ j, m = 0 + j := ⟨m - 0, by omega⟩
        have hj' := hide hj
        clear hj
        have cM := hide (chMove_c Bp cap' capc a' ac ts cs x.ty x.ts x.vs av cv 0 m hS h20 hv20 wr C V)
        go_wp2_with fail
        refine (unhide cM).mono ?_
        rintro e w3 ⟨hma, hb3⟩
        clear cM he0 he1 he2
        have bw3 := bwr.trans (hb3.mono bwr.size)
        have u6 := z6.on hb3 z6.lt
        have V3 := V.on hb3
        have C3 := (C.on hb3).mono hb3.size
        by_cases hi0 : isE ts x = 0
        · obtain ⟨a3, c3, rfl, U3⟩ := mv_good (k := 0) (j := m) rfl rfl (by omega) hmc hi0 hma
          obtain ⟨y1, hy1⟩ : ∃ y, y = mvK ts cs 0 x m := ⟨_, rfl⟩
          rw [← hy1] at U3 ⊢
          replace hy1 := hide hy1
          obtain ⟨w4, hw4⟩ : ∃ w4, w4 = w3.alloc (.cells #[.string x.ty.1, .int .i64 x.ts, .slice a3 y1.vs.length c3] 28) := ⟨_, rfl⟩
          have b4 : Below w3.heap.size w3 w4 := by rw [hw4]; exact (Below.refl _ _).alloc (Nat.le_refl _) _
          have xa : Box w4 w3.heap.size 28 #[.string x.ty.1, .int .i64 x.ts, .slice a3 y1.vs.length c3] := by rw [hw4]; exact Box.new _ _ _
          have bw4 := bw3.trans (b4.mono bw3.size)
          have U4 := U3.on b4
          have C4 := (C3.on b4).mono b4.size
          have V4 := V3.on b4
          obtain ⟨he0, he1, he2⟩ := (u6.on b4 u6.lt).three
          clear hma hb3 bw3 u6 V3 C3 U3 b4 bwr z6 V C
          replace hw4 := hide hw4
          go_upto_region 17 with fail
          rw [← unhide hw4]
          clear hw4
          have cM := hide (chMove_c Bp cap' capc a' ac ts cs x.ty x.ts x.vs av cv 0 0 hS h20 hv20 w4 C4 V4)
          go_wp2_with fail
          refine (unhide cM).mono ?_
          rintro e w5 ⟨hma, hb5⟩
          clear cM he0 he1 he2
          obtain ⟨a5, c5, rfl, U5⟩ := mv_good (k := 0) (m := 0) (j := 0) rfl rfl (by omega) (by omega) hi0 hma
          obtain ⟨y2, hy2⟩ : ∃ y, y = mvK ts cs 0 x 0 := ⟨_, rfl⟩
          rw [← hy2] at U5 ⊢
          replace hy2 := hide hy2
          obtain ⟨w6, hw6⟩ : ∃ w6, w6 = w5.alloc (.cells #[.string x.ty.1, .int .i64 x.ts, .slice a5 y2.vs.length c5] 28) := ⟨_, rfl⟩
          have b6 : Below w5.heap.size w5 w6 := by rw [hw6]; exact (Below.refl _ _).alloc (Nat.le_refl _) _
          have xb : Box w6 w5.heap.size 28 #[.string x.ty.1, .int .i64 x.ts, .slice a5 y2.vs.length c5] := by rw [hw6]; exact Box.new _ _ _
          have bw5 := bw4.trans (hb5.mono bw4.size)
          have bw6 := bw5.trans (b6.mono bw5.size)
          have U6 := U5.on b6
          have UA6 := (U4.on hb5).on b6
          have C5 := (C4.on hb5).mono hb5.size
          have C6 := (C5.on b6).mono b6.size
          have xa5 := xa.on hb5 xa.lt
          have xa6 := xa5.on b6 xa5.lt
          obtain ⟨hf0, hf1, hf2⟩ := xb.three
          clear hma hb5 bw4 bw5 U4 U5 C4 C5 V4 xa xa5 b6
          replace hw6 := hide hw6
          go_upto_region 18 with fail
          rw [← unhide hw6]
          clear hw6
          have hz2 : (⟨x.ty, x.ts, y2.vs⟩ : Ev) = y2 := by rw [unhide hy2]; exact mv_eta ts cs 0 _ x
          have hz1 : (⟨x.ty, x.ts, y1.vs⟩ : Ev) = y1 := by rw [unhide hy1]; exact mv_eta ts cs 0 _ x
          have hl2 : y2.vs.length ≤ 20 := by rw [unhide hy2]; exact mvK_len hS cs 0 hv20 _
          have hl1 : y1.vs.length ≤ 20 := by rw [unhide hy1]; exact mvK_len hS cs 0 hv20 _
          have hi2 : isE (vers ts cs 0) ⟨x.ty, x.ts, y2.vs⟩ = 0 := by
            rw [hz2, unhide hy2]
            have := isE_mv hS cs 0 hi0 0 (by omega)
            rwa [Nat.zero_add] at this
          have hi1 : isE (vers ts cs m) ⟨x.ty, x.ts, y1.vs⟩ = 0 := by
            rw [hz1, unhide hy1]
            have := isE_mv hS cs 0 hi0 m (by omega)
            rwa [Nat.zero_add] at this
          have h21 : mvK ts cs 0 ⟨x.ty, x.ts, y2.vs⟩ j = y1 := by
            rw [hz2, unhide hy2, unhide hy1, unhide hj']
            have := mvK_add ts cs 0 0 x j
            rwa [Nat.zero_add] at this
          replace hz2 := hide hz2
          replace hz1 := hide hz1
          replace hi1 := hide hi1
          replace hi2 := hide hi2
          replace h21 := hide h21
          have cM := hide (chMove_c Bp cap' capc a' ac ts cs x.ty x.ts y2.vs a5 c5 0 m hS h20 hl2 w6 C6 U6)
          go_wp2_with fail
          refine (unhide cM).mono ?_
          rintro e w7 ⟨hma, hb7⟩
          clear cM hf0 hf1 hf2
          obtain ⟨a7, c7, rfl, U7⟩ := mv_good (k := 0) (j := j) rfl rfl (unhide hj') hmc (unhide hi2) hma
          rw [unhide h21] at U7 ⊢
          obtain ⟨w8, hw8⟩ : ∃ w8, w8 = w7.alloc (.cells #[.string x.ty.1, .int .i64 x.ts, .slice a7 y1.vs.length c7] 28) := ⟨_, rfl⟩
          have b8 : Below w7.heap.size w7 w8 := by rw [hw8]; exact (Below.refl _ _).alloc (Nat.le_refl _) _
          have xd : Box w8 w7.heap.size 28 #[.string x.ty.1, .int .i64 x.ts, .slice a7 y1.vs.length c7] := by rw [hw8]; exact Box.new _ _ _
          have bw7 := bw6.trans (hb7.mono bw6.size)
          have bw8 := bw7.trans (b8.mono bw7.size)
          have UD8 := U7.on b8
          have UA8 := (UA6.on hb7).on b8
          have C7 := (C6.on hb7).mono hb7.size
          have C8 := (C7.on b8).mono b8.size
          have xa7 := xa6.on hb7 xa6.lt
          have xa8 := xa7.on b8 xa7.lt
          clear hma hb7 bw6 bw7 UA6 U6 U7 C6 C7 xa6 xa7 xb b8
          replace hw8 := hide hw8
          go_upto_region 21 with fail
          rw [← unhide hw8]
          clear hw8
          have cT := hide (at_c Bp cap' capc a' ac ts cs m hS h20 w8 C8)
          go_wp2_with fail
          refine (unhide cT).mono ?_
          rintro e w9 ⟨hat, hb9⟩
          clear cT
          obtain ⟨a9, c9, rfl, T9⟩ := at_good rfl hmc hS hat
          obtain ⟨vm, hvm⟩ : ∃ vm, vm = vers ts cs m := ⟨_, rfl⟩
          have hSm := sch_vers hS cs m
          have hi1 := hide (show isE vm ⟨x.ty, x.ts, y1.vs⟩ = 0 by rw [hvm]; exact unhide hi1)
          rw [← hvm] at T9 hSm ⊢
          obtain ⟨w10, hw10⟩ : ∃ w10, w10 = w9.alloc (.cells #[.slice a9 vm.length c9] 24) := ⟨_, rfl⟩
          have b10 : Below w9.heap.size w9 w10 := by rw [hw10]; exact (Below.refl _ _).alloc (Nat.le_refl _) _
          have xt : Box w10 w9.heap.size 24 #[.slice a9 vm.length c9] := by rw [hw10]; exact Box.new _ _ _
          have bw9 := bw8.trans (hb9.mono bw8.size)
          have bw10 := bw9.trans (b10.mono bw9.size)
          have UD10 := (UD8.on hb9).on b10
          have UA10 := (UA8.on hb9).on b10
          have T10 := T9.on b10
          have xa9 := xa8.on hb9 xa8.lt
          have xa10 := xa9.on b10 xa9.lt
          have xd9 := xd.on hb9 xd.lt
          have xd10 := xd9.on b10 xd9.lt
          obtain ⟨hp0, hp1, hp2⟩ := xa10.three
          obtain ⟨hq0, hq1, hq2⟩ := xd10.three
          clear hat hb9 bw8 bw9 UD8 UA8 T9 xa8 xa9 xd xd9 b10 C8 hvm
          replace hw10 := hide hw10
          go_upto_region 22 with fail
          rw [← unhide hw10]
          clear hw10
          have cS := hide (refSame_c ⟨x.ty, x.ts, y1.vs⟩ ⟨x.ty, x.ts, y1.vs⟩ a3 a7 c3 c7 hl1 hl1 w10 UA10 UD10)
          rw [sameE_self] at cS
          go_wp2_with fail
          refine (unhide cS).mono ?_
          rintro e w11 ⟨rfl, hb11⟩
          clear cS hp0 hp1 hp2 hq0 hq1 hq2
          have bw11 := bw10.trans (hb11.mono bw10.size)
          have ht0 := (xt.on hb11 xt.lt).one.1
          obtain ⟨hp0, hp1, hp2⟩ := (xa10.on hb11 xa10.lt).three
          have cI := hide (refIsE_c a9 a3 c9 c3 vm ⟨x.ty, x.ts, y1.vs⟩ hSm.1 (sch_hk5 hSm) hl1 w11 (T10.on hb11) (UA10.on hb11))
          rw [unhide hi1] at cI
          go_wp2_with fail
          refine (unhide cI).mono ?_
          rintro e w12 ⟨rfl, hb12⟩
          clear cI
          have bw12 := bw11.trans (hb12.mono bw11.size)
          go_wp2_with fail
          go_ret
          exact ⟨rfl, bw12⟩
        · have hma' := mv_bad (k := 0) rfl rfl (Nat.zero_le _) hmc hi0 hma
          obtain rfl := hma'
          obtain ⟨r, hr⟩ : ∃ r, r = isE (vers ts cs 0) ⟨x.ty, x.ts, x.vs⟩ := ⟨_, rfl⟩
          rw [← hr]
          have hi0' : isE (vers ts cs 0) ⟨x.ty, x.ts, x.vs⟩ ≠ 0 := hi0
          replace hr := hide hr
          obtain ⟨w4, hw4⟩ : ∃ w4, w4 = w3.alloc (.cells #[.string ⟨#[]⟩, .int .i64 0, .slice none 0 0] 28) := ⟨_, rfl⟩
          have b4 : Below w3.heap.size w3 w4 := by rw [hw4]; exact (Below.refl _ _).alloc (Nat.le_refl _) _
          have bw4 := bw3.trans (b4.mono bw3.size)
          have C4 := (C3.on b4).mono b4.size
          have V4 := V3.on b4
          obtain ⟨he0, he1, he2⟩ := (u6.on b4 u6.lt).three
          clear hma hb3 bw3 u6 V3 C3 b4 bwr z6 V C
          replace hi0 := hide hi0
          replace hi0' := hide hi0'
          replace hw4 := hide hw4
          go_upto_region 17 with fail
          rw [← unhide hw4]
          clear hw4
          have cM := hide (chMove_c Bp cap' capc a' ac ts cs x.ty x.ts x.vs av cv 0 0 hS h20 hv20 w4 C4 V4)
          go_wp2_with fail
          refine (unhide cM).mono ?_
          rintro e w5 ⟨hma, hb5⟩
          clear cM he0 he1 he2
          have hma' := mv_bad (k := 0) (m := 0) rfl rfl (by omega) (by omega) (unhide hi0') hma
          obtain rfl := hma'
          rw [← unhide hr]
          have bw5 := bw4.trans (hb5.mono bw4.size)
          have bw6 := bw5.alloc bw5.size (.cells #[.string ⟨#[]⟩, .int .i64 0, .slice none 0 0] 28)
          have hg6 := unhide hgB _ bw6
          clear hma C4 V4 hb5 bw4
          go_wp2_with fail
          refine (code_c r _ hg6).mono ?_
          rintro e w7 ⟨rfl, hb7⟩
          have bw7 := bw6.trans (hb7.mono bw6.size)
          have hg7 := unhide hgB _ bw7
          go_wp2_with fail
          refine (code_c r _ hg7).mono ?_
          rintro e w8 ⟨rfl, hb8⟩
          have bw8 := bw7.trans (hb8.mono bw7.size)
          go_wp2_with fail
          go_ret
          exact ⟨rfl, bw8⟩

end Go.Proofs.YtcjpaldijngnpaaGreatDoor
