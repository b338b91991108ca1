/-
  Rows of values in memory; what value's Same, slices.EqualFunc over it, event's Same, slices.Clone of values and event's Copy answer: for every event of at most 20 values, in whatever world; nothing that lay is turned.
-/
import Derived.Test.YthifciikmdnhaaaDoorFind
namespace Go.Proofs.YthifciikmdnhaaaDoor
open Go.RowKit Go.Shelf

/-- A value: its kind, its number, its text. -/
abbrev Vl := Int × Int × Txt
abbrev vl (vs : List Vl) (j : Nat) : Vl := vs[j]?.getD default
/-- The slice at a has these values, below n₀. -/
def Vals (n₀ : Nat) (W : World) (a : Option Addr) (vs : List Vl) : Prop :=
  vs = [] ∨ ∃ b off, a = some ⟨b, off, none⟩ ∧ b < n₀ ∧ ∀ j, j < vs.length → W.cell? ⟨b, off + j * 3, none⟩ = some (.int .i64 (vl vs j).1) ∧ W.cell? ⟨b, off + j * 3 + 1, none⟩ = some (.int .i64 (vl vs j).2.1) ∧ W.cell? ⟨b, off + j * 3 + 2, none⟩ = some (.string (vl vs j).2.2.1)
theorem Vals.below {n₀ : Nat} {A B : World} (h : Below n₀ A B) {a : Option Addr} {vs : List Vl} : Vals n₀ A a vs → Vals n₀ B a vs
  | .inl e => .inl e
  | .inr ⟨b, off, e, hb, hc⟩ => .inr ⟨b, off, e, hb, fun j hj => ⟨(h.cell (p := ⟨b, off + j * 3, none⟩) hb).trans (hc j hj).1, (h.cell (p := ⟨b, off + j * 3 + 1, none⟩) hb).trans (hc j hj).2.1, (h.cell (p := ⟨b, off + j * 3 + 2, none⟩) hb).trans (hc j hj).2.2⟩⟩
theorem Vals.mono {n₀ n₁ : Nat} (hn : n₀ ≤ n₁) {A : World} {a : Option Addr} {vs : List Vl} : Vals n₀ A a vs → Vals n₁ A a vs
  | .inl e => .inl e
  | .inr ⟨b, off, e, hb, hc⟩ => .inr ⟨b, off, e, Nat.lt_of_lt_of_le hb hn, hc⟩
theorem Vals.on {A B : World} {a : Option Addr} {vs : List Vl} (h : Vals A.heap.size A a vs) (hb : Below A.heap.size A B) : Vals B.heap.size B a vs := (h.below hb).mono hb.size
theorem Vals.set {n : Nat} {W : World} {a : Option Addr} {vs : List Vl} (h : Vals n W a vs) (p : Addr) (v : Value) (hne : ∀ ad, a = some ad → p.block ≠ ad.block) : Vals n (W.setCell p v) a vs := by
  rcases h with h | ⟨b, off, rfl, hb, hc⟩
  · exact .inl h
  · have hp := hne _ rfl
    refine .inr ⟨b, off, rfl, hb, fun j hj => ⟨(World.cell?_setCell_other _ _ _ _ (fun e => hp (by rw [e]))).trans (hc j hj).1, (World.cell?_setCell_other _ _ _ _ (fun e => hp (by rw [e]))).trans (hc j hj).2.1, (World.cell?_setCell_other _ _ _ _ (fun e => hp (by rw [e]))).trans (hc j hj).2.2⟩⟩

/-- Two values are the same: all parts. -/
def sameV (x y : Vl) : Bool := decide (x.1 = y.1 ∧ x.2.1 = y.2.1 ∧ x.2.2.1.toList = y.2.2.1.toList)

set_option maxHeartbeats 400000 in
theorem sameV_c (x y : Vl) (w : World) :
    Calls Tryd.prog 24 #[.agg #[.int .i64 x.1, .int .i64 x.2.1, .string x.2.2.1], .agg #[.int .i64 y.1, .int .i64 y.2.1, .string y.2.2.1]] w fun e w' => e = .returned (.bool (sameV x y)) ∧ Below w.heap.size w w' := by
  obtain ⟨k, n, s⟩ := x
  obtain ⟨k', n', s'⟩ := y
  go_enter Tryd.func24, Tryd.ntmps24
  go_wp2
  all_goals (go_ret; refine ⟨?_, ((Below.refl _ _).alloc (Nat.le_refl _) _).alloc (by simp) _⟩; simp [sameV, *])

/-- Two rows of values are the same as far as the first goes. -/
def samesV (vs us : List Vl) : Bool := (vs.zip us).all fun p => sameV p.1 p.2
theorem samesV_snoc (vs us : List Vl) (x y : Vl) (h : vs.length = us.length) : samesV (vs ++ [x]) (us ++ [y]) = (samesV vs us && sameV x y) := by
  simp [samesV, List.zip_append h]
theorem samesV_no (vs us : List Vl) (k : Nat) (h : samesV (vs.take k) (us.take k) = false) : samesV vs us = false := by
  unfold samesV at *
  rw [List.zip_eq_zipWith, ← List.take_zipWith, ← List.zip_eq_zipWith, List.all_eq_false] at h
  rw [List.all_eq_false]
  obtain ⟨x, hx, hn⟩ := h
  exact ⟨x, List.mem_of_mem_take hx, hn⟩
def sameVs (vs us : List Vl) : Bool := decide (vs.length = us.length) && samesV vs us

set_option maxHeartbeats 1000000 in
theorem equalV_c (a a' : Option Addr) (cap cap' : Nat) (vs us : List Vl) (h20 : vs.length ≤ 20) (h20' : us.length ≤ 20) (w : World) (hV : Vals w.heap.size w a vs) (hU : Vals w.heap.size w a' us) :
    Calls Tryd.prog 23 #[.slice a vs.length cap, .slice a' us.length cap', .func (.func 24) #[] #[]] w fun e w' => e = .returned (.bool (sameVs vs us)) ∧ Below w.heap.size w w' := by
  by_cases hl : vs.length = us.length
  · have hs := hide (show sameVs vs us = samesV vs us by simp [sameVs, hl])
    rcases hV with rfl | ⟨b, off, rfl, hb, hc⟩
    · have hu : us = [] := List.length_eq_zero_iff.1 hl.symm
      subst hu
      clear hl hU
      go_enter Tryd.func23, Tryd.ntmps23
      go_wp2
      go_loopw [17] (fun i wr => i = .int .i64 0 ∧ Below w.heap.size w wr) (fun _ _ => 0)
      case atStart => exact ⟨rfl, Below.refl _ _⟩
      case round =>
        obtain ⟨rfl, hb⟩ := hrel
        go_wp2
        go_ret
        exact ⟨by rw [unhide hs]; rfl, hb⟩
    · have hU' : us = [] ∨ vs ≠ [] := by
        cases vs with
        | nil => exact .inl (List.length_eq_zero_iff.1 (by simpa using hl.symm))
        | cons x l => exact .inr (by simp)
      rcases hU with rfl | ⟨b', off', rfl, hb', hc'⟩
      · have hu : vs = [] := List.length_eq_zero_iff.1 hl
        subst hu
        clear hl hU'
        go_enter Tryd.func23, Tryd.ntmps23
        go_wp2
        go_loopw [17] (fun i wr => i = .int .i64 0 ∧ Below w.heap.size w wr) (fun _ _ => 0)
        case atStart => exact ⟨rfl, Below.refl _ _⟩
        case round =>
          obtain ⟨rfl, hb⟩ := hrel
          go_wp2
          go_ret
          exact ⟨by rw [unhide hs]; rfl, hb⟩
      · clear hU'
        rw [← hl]
        replace hl := hide hl
        replace hc := hide hc
        replace hc' := hide hc'
        go_enter Tryd.func23, Tryd.ntmps23
        go_wp2
        go_loopw [17] (fun i wr => ∃ k : Nat, k ≤ vs.length ∧ i = .int .i64 k ∧ Hid (samesV (vs.take k) (us.take k) = true) ∧ Below w.heap.size w wr) (fun i _ => vs.length - (intOf i).toNat)
        case atStart => exact ⟨0, Nat.zero_le _, rfl, hide rfl, Below.refl _ _⟩
        case round =>
          obtain ⟨k, hk, rfl, hall, hbw⟩ := hrel
          by_cases hlt : k < vs.length
          · have hltu : k < us.length := by have := unhide hl; omega
            have hc1 : wr.cell? ⟨b, off + k * 3, none⟩ = some (.int .i64 (vl vs k).1) := (hbw.cell (p := ⟨b, off + k * 3, none⟩) hb).trans (unhide hc k hlt).1
            have hc2 : wr.cell? ⟨b, off + k * 3 + 1, none⟩ = some (.int .i64 (vl vs k).2.1) := (hbw.cell (p := ⟨b, off + k * 3 + 1, none⟩) hb).trans (unhide hc k hlt).2.1
            have hc3 : wr.cell? ⟨b, off + k * 3 + 2, none⟩ = some (.string (vl vs k).2.2.1) := (hbw.cell (p := ⟨b, off + k * 3 + 2, none⟩) hb).trans (unhide hc k hlt).2.2
            have hd1 : wr.cell? ⟨b', off' + k * 3, none⟩ = some (.int .i64 (vl us k).1) := (hbw.cell (p := ⟨b', off' + k * 3, none⟩) hb').trans (unhide hc' k hltu).1
            have hd2 : wr.cell? ⟨b', off' + k * 3 + 1, none⟩ = some (.int .i64 (vl us k).2.1) := (hbw.cell (p := ⟨b', off' + k * 3 + 1, none⟩) hb').trans (unhide hc' k hltu).2.1
            have hd3 : wr.cell? ⟨b', off' + k * 3 + 2, none⟩ = some (.string (vl us k).2.2.1) := (hbw.cell (p := ⟨b', off' + k * 3 + 2, none⟩) hb').trans (unhide hc' k hltu).2.2
            have hw1 := cell_lt hc1
            have hw2 := cell_lt hd1
            simp only at hw1 hw2
            have hd1' : (wr.alloc (.cells #[.int .i64 (vl vs k).1, .int .i64 (vl vs k).2.1, .string (vl vs k).2.2.1] 31)).cell? ⟨b', off' + k * 3, none⟩ = some (.int .i64 (vl us k).1) := (((Below.refl _ wr).alloc (Nat.le_refl _) _).cell (p := ⟨b', off' + k * 3, none⟩) hw2).trans hd1
            have hd2' : (wr.alloc (.cells #[.int .i64 (vl vs k).1, .int .i64 (vl vs k).2.1, .string (vl vs k).2.2.1] 31)).cell? ⟨b', off' + k * 3 + 1, none⟩ = some (.int .i64 (vl us k).2.1) := (((Below.refl _ wr).alloc (Nat.le_refl _) _).cell (p := ⟨b', off' + k * 3 + 1, none⟩) hw2).trans hd2
            have hd3' : (wr.alloc (.cells #[.int .i64 (vl vs k).1, .int .i64 (vl vs k).2.1, .string (vl vs k).2.2.1] 31)).cell? ⟨b', off' + k * 3 + 2, none⟩ = some (.string (vl us k).2.2.1) := (((Below.refl _ wr).alloc (Nat.le_refl _) _).cell (p := ⟨b', off' + k * 3 + 2, none⟩) hw2).trans hd3
            have hsv := hide (show vs.take (k + 1) = vs.take k ++ [vl vs k] by rw [List.take_succ_eq_append_getElem hlt]; simp [vl, hlt])
            have hsu := hide (show us.take (k + 1) = us.take k ++ [vl us k] by rw [List.take_succ_eq_append_getElem hltu]; simp [vl, hltu])
            have hll := hide (show (vs.take k).length = (us.take k).length by simp; omega)
            clear hd1 hd2 hd3 hltu
            cases hsame : sameV (vl vs k) (vl us k)
            · go_wp2_with fail
              refine (sameV_c _ _ _).mono ?_
              rintro e w2 ⟨rfl, hb2⟩
              rw [hsame]
              go_wp2_with fail
              go_ret
              refine ⟨?_, hbw.trans ((((Below.refl _ wr).alloc (Nat.le_refl _) _).alloc (by simp) _).trans (hb2.mono (by simp; omega)) |>.mono hbw.size)⟩
              rw [unhide hs, samesV_no vs us (k + 1) (by rw [unhide hsv, unhide hsu, samesV_snoc _ _ _ _ (unhide hll), hsame, Bool.and_false])]
              rfl
            · go_wp2_with fail
              refine (sameV_c _ _ _).mono ?_
              rintro e w2 ⟨rfl, hb2⟩
              rw [hsame]
              go_wp2_with fail
              go_roundw
              case rel => exact ⟨k + 1, by omega, by go_num, hide (by rw [unhide hsv, unhide hsu, samesV_snoc _ _ _ _ (unhide hll), unhide hall, hsame]; rfl), hbw.trans ((((Below.refl _ wr).alloc (Nat.le_refl _) _).alloc (by simp) _).trans (hb2.mono (by simp; omega)) |>.mono hbw.size)⟩
              case measure => simp [intOf]; omega
          · go_wp2
            go_ret
            refine ⟨?_, hbw⟩
            have := unhide hall
            rw [List.take_of_length_le (by omega), List.take_of_length_le (by have := unhide hl; omega)] at this
            rw [unhide hs, this]; rfl
  · have hs := hide (show sameVs vs us = false by simp [sameVs, hl])
    have hl' : ((vs.length : Int) == us.length) = false := by simp; omega
    clear hl
    go_enter Tryd.func23, Tryd.ntmps23
    go_wp2
    go_ret
    exact ⟨by rw [unhide hs]; rfl, Below.refl _ _⟩

/-- An event: its type's name, its time, its values. -/
structure Ev where
  ty : Txt
  ts : Int
  vs : List Vl
/-- Two events are the same: all parts. -/
def sameE (x y : Ev) : Bool := (x.ty.1.toList == y.ty.1.toList) && decide (x.ts = y.ts) && sameVs x.vs y.vs

set_option maxHeartbeats 1000000 in
theorem sameE_c (x y : Ev) (a a' : Option Addr) (cap cap' : Nat) (h20 : x.vs.length ≤ 20) (h20' : y.vs.length ≤ 20) (w : World) (hV : Vals w.heap.size w a x.vs) (hU : Vals w.heap.size w a' y.vs) :
    Calls Tryd.prog 11 #[.agg #[.string x.ty.1, .int .i64 x.ts, .slice a x.vs.length cap], .agg #[.string y.ty.1, .int .i64 y.ts, .slice a' y.vs.length cap']] w fun e w' => e = .returned (.bool (sameE x y)) ∧ Below w.heap.size w w' := by
  obtain ⟨t, n, vs⟩ := x
  obtain ⟨t', n', us⟩ := y
  simp only at h20 h20' hV hU ⊢
  have b0 : Below w.heap.size w ((w.alloc (.cells #[.string t.1, .int .i64 n, .slice a vs.length cap] 27)).alloc (.cells #[.string t'.1, .int .i64 n', .slice a' us.length cap'] 27)) := ((Below.refl _ _).alloc (Nat.le_refl _) _).alloc (by simp) _
  have sV := hV.on b0
  have sU := hU.on b0
  cases ht : (t.1.toList == t'.1.toList)
  · have H := hide (show sameE ⟨t, n, vs⟩ ⟨t', n', us⟩ = false by simp [sameE, ht])
    go_enter Tryd.func11, Tryd.ntmps11
    go_wp2_with fail
    go_ret
    exact ⟨by rw [unhide H]; rfl, b0⟩
  · by_cases hn : n = n'
    · subst hn
      have H := hide (show sameE ⟨t, n, vs⟩ ⟨t', n, us⟩ = sameVs vs us by simp [sameE, ht])
      go_enter Tryd.func11, Tryd.ntmps11
      go_wp2_with fail
      refine (equalV_c a a' cap cap' vs us h20 h20' _ sV sU).mono ?_
      rintro e w1 ⟨rfl, hb1⟩
      go_wp2_with fail
      go_ret
      exact ⟨by rw [unhide H]; rfl, b0.trans (hb1.mono b0.size)⟩
    · have H := hide (show sameE ⟨t, n, vs⟩ ⟨t', n', us⟩ = false by simp [sameE, ht, hn])
      have hn' : (n == n') = false := by simp [hn]
      clear hn
      go_enter Tryd.func11, Tryd.ntmps11
      go_wp2_with fail
      go_ret
      exact ⟨by rw [unhide H]; rfl, b0⟩

theorem infoVl : (Tryd.prog.info? 31).map (fun i => (i.zero, i.size, i.bytes)) = some (some (.agg #[.int .i64 0, .int .i64 0, .string ⟨#[]⟩]), 3, 32) := by kernel_rfl

/-- The cells of a row of values. -/
def newsV (vs : List Vl) : List Value := vs.flatMap fun v => [.int .i64 v.1, .int .i64 v.2.1, .string v.2.2.1]
theorem newsV_len (vs : List Vl) : (newsV vs).length = vs.length * 3 := by
  induction vs with
  | nil => rfl
  | cons f vs ih => simp only [newsV, List.flatMap_cons, List.length_append, List.length_cons, List.length_nil] at ih ⊢; omega
theorem newsV_at (vs : List Vl) : ∀ j, j < vs.length → (newsV vs)[j * 3]? = some (.int .i64 (vl vs j).1) ∧ (newsV vs)[j * 3 + 1]? = some (.int .i64 (vl vs j).2.1) ∧ (newsV vs)[j * 3 + 2]? = some (.string (vl vs j).2.2.1) := by
  induction vs with
  | nil => intro j hj; simp at hj
  | cons f vs ih =>
    intro j hj
    cases j with
    | zero => simp [newsV, vl]
    | succ j =>
      have := ih j (by simpa using hj)
      have e : newsV (f :: vs) = .int .i64 f.1 :: .int .i64 f.2.1 :: .string f.2.2.1 :: newsV vs := by simp [newsV]
      rw [e, show (j + 1) * 3 = j * 3 + 1 + 1 + 1 by omega]
      simpa [vl] using this
theorem newsV_one (vs : List Vl) : ∀ u ∈ newsV vs, u.oneCell' = true := by
  intro u hu
  simp only [newsV, List.mem_flatMap] at hu
  obtain ⟨f, _, hf⟩ := hu
  simp at hf
  rcases hf with rfl | rfl | rfl <;> simp [Value.oneCell']
theorem newsV_append (vs us : List Vl) : newsV (vs ++ us) = newsV vs ++ newsV us := by simp [newsV]
theorem vals_of_owns {W : World} {base : Nat} {v : Value} {vs : List Vl} (h : W.ownsRow base 31 3 v vs.length (newsV vs)) : ∃ a c, v = .slice a vs.length c ∧ Vals W.heap.size W a vs ∧ ∀ ad, a = some ad → base ≤ ad.block := by
  rcases h.2 with ⟨rfl, h0⟩ | ⟨g, cap, cur, rfl, hbase, hg, _, _, _, htake⟩
  · rw [h0]; exact ⟨_, _, rfl, .inl (List.length_eq_zero_iff.1 h0), fun _ e => by cases e⟩
  · refine ⟨_, _, rfl, .inr ⟨g, 0, rfl, (Array.getElem?_eq_some_iff.1 hg).1, fun j hj => ?_⟩, fun _ e => by cases e; exact hbase⟩
    have e2 : ∀ i, i < vs.length * 3 → (cur.toList.take (vs.length * 3))[i]? = cur[i]? := fun i hi => by rw [List.getElem?_take, if_pos hi, Array.getElem?_toList]
    rw [htake] at e2
    simp only [Nat.zero_add, World.cell?, hg]
    have h1 := e2 (j * 3) (by omega)
    have h2 := e2 (j * 3 + 1) (by omega)
    have h3 := e2 (j * 3 + 2) (by omega)
    rw [(newsV_at vs j hj).1] at h1
    rw [(newsV_at vs j hj).2.1] at h2
    rw [(newsV_at vs j hj).2.2] at h3
    simp [← h1, ← h2, ← h3]

theorem newsV_cells {W : World} {b off : Nat} {vs : List Vl} (hc : ∀ j, j < vs.length → W.cell? ⟨b, off + j * 3, none⟩ = some (.int .i64 (vl vs j).1) ∧ W.cell? ⟨b, off + j * 3 + 1, none⟩ = some (.int .i64 (vl vs j).2.1) ∧ W.cell? ⟨b, off + j * 3 + 2, none⟩ = some (.string (vl vs j).2.2.1)) :
    ∀ j u, (newsV vs)[j]? = some u → W.cell? ((⟨b, off, none⟩ : Addr).add j) = some u := by
  intro j u hu
  have hj : j < vs.length * 3 := by
    have := (List.getElem?_eq_some_iff.1 hu).1
    rwa [newsV_len] at this
  rw [WideShapes.add_plain]
  have hk : j / 3 < vs.length := by omega
  have h3 : j % 3 = 0 ∨ j % 3 = 1 ∨ j % 3 = 2 := by omega
  rcases h3 with h | h | h
  · have e : j = j / 3 * 3 := by omega
    rw [e] at hu ⊢
    rw [(newsV_at vs _ hk).1] at hu
    rw [← hu]
    exact (hc _ hk).1
  · have e : j = j / 3 * 3 + 1 := by omega
    rw [e] at hu ⊢
    rw [(newsV_at vs _ hk).2.1] at hu
    rw [← hu, ← Nat.add_assoc]
    exact (hc _ hk).2.1
  · have e : j = j / 3 * 3 + 2 := by omega
    rw [e] at hu ⊢
    rw [(newsV_at vs _ hk).2.2] at hu
    rw [← hu, ← Nat.add_assoc]
    exact (hc _ hk).2.2

set_option maxRecDepth 100000 in
set_option maxHeartbeats 1000000 in
/-- What Clone makes: a row of its own. -/
theorem cloneV_c (a : Option Addr) (cap : Nat) (vs : List Vl) (h20 : vs.length ≤ 20) (w : World) (hV : Vals w.heap.size w a vs) :
    Calls Tryd.prog 25 #[.slice a vs.length cap] w fun e w' => ∃ a' c', e = .returned (.slice a' vs.length c') ∧ w'.ownsRow w.heap.size 31 3 (.slice a' vs.length c') vs.length (newsV vs) ∧ Below w.heap.size w w' := by
  obtain ⟨i0, hi, hz0, hz1, hz2⟩ := info_parts infoVl
  have heq : ∀ (w : World) (n c : Nat), (binOp .eql 25 (.slice a n c) (.slice none 0 0)).run Tryd.prog w = .ok (.bool a.isNone) w := fun w n c => Lib.run_eql_slice_nil w 25 31 a n c 0 0 Tryd.underlying25
  cases a with
  | none =>
    have e0 : vs = [] := by
      rcases hV with h | ⟨b, off, e, _⟩
      · exact h
      · cases e
    subst e0
    go_enter Tryd.func25, Tryd.ntmps25
    go_wp2_with fail
    go_ret
    exact ⟨_, _, rfl, ⟨rfl, .inl ⟨rfl, rfl⟩⟩, Below.refl _ _⟩
  | some ad =>
    have b0 : Below w.heap.size w (w.alloc (.cells #[] 31)) := (Below.refl _ _).alloc (Nat.le_refl _) _
    have ho : (w.alloc (.cells #[] 31)).ownsRow w.heap.size 31 3 (.slice (some ⟨w.heap.size, 0, none⟩) 0 0) 0 [] := ⟨rfl, .inr ⟨w.heap.size, 0, #[], rfl, Nat.le_refl _, World.alloc_heap_new w _, Nat.le_refl _, Nat.zero_le _, rfl, rfl⟩⟩
    have hnews : ∀ j u, (newsV vs)[j]? = some u → (w.alloc (.cells #[] 31)).cell? (ad.add j) = some u := by
      rcases hV.below b0 with rfl | ⟨b, off, e, _, hc⟩
      · intro j u h; simp [newsV] at h
      · cases e; exact newsV_cells hc
    have hnews := hide hnews
    have hln := hide (newsV_len vs)
    have h1 := hide (newsV_one vs)
    have hV := hide hV
    go_enter Tryd.func25, Tryd.ntmps25
    go_wp2_with (at_builtin; go_must (refine wpList_append_own _ rfl _ _ 25 rfl w.heap.size 31 i0 (.agg #[.int .i64 0, .int .i64 0, .string ⟨#[]⟩]) 3 32 Tryd.underlying25 hi hz0 hz1 hz2 rfl (by decide) (.slice (some ⟨w.heap.size, 0, none⟩) 0 0) 0 [] rfl ho ad vs.length cap (newsV vs) rfl (unhide hln) (unhide hnews) (unhide h1) (by unfold maxLen; omega) (by omega) (by simp) ?_); intro v' w2 hown hgrow _)
    rw [Nat.zero_add] at hown
    obtain ⟨a', c', rfl, _, _⟩ := vals_of_owns hown
    go_wp2_with fail
    go_ret
    exact ⟨a', c', rfl, by simpa using hown, b0.grown hgrow (by simp) (fun k e => by cases e; exact Nat.le_refl _)⟩

end Go.Proofs.YthifciikmdnhaaaDoor
