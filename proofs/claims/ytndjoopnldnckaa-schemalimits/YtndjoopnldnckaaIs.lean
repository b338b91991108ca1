/-
  What schema's Is answers: for every schema, in whatever world; nothing that lay is turned.
-/
import Derived.Test.YtndjoopnldnckaaBad
namespace Go.Proofs.Ytndjoopnldnckaa
open Go.RowKit Go.Shelf

/-- A type: its name, its fields. -/
abbrev Ty := Txt × List Fd
abbrev ty (ts : List Ty) (j : Nat) : Ty := ts[j]?.getD default
/-- The slice at a has these types, below n₀. -/
def Typs (n₀ : Nat) (W : World) (a : Option Addr) (ts : List Ty) : Prop :=
  ts = [] ∨ ∃ b off, a = some ⟨b, off, none⟩ ∧ b < n₀ ∧ ∀ j, j < ts.length → W.cell? ⟨b, off + j * 2, none⟩ = some (.string (ty ts j).1.1) ∧
    ∃ a' c', W.cell? ⟨b, off + j * 2 + 1, none⟩ = some (.slice a' (ty ts j).2.length c') ∧ Flds n₀ W a' (ty ts j).2 ∧ (ty ts j).2.length ≤ maxLen
theorem Typs.below {n₀ : Nat} {A B : World} (h : Below n₀ A B) {a : Option Addr} {ts : List Ty} : Typs n₀ A a ts → Typs n₀ B a ts
  | .inl e => .inl e
  | .inr ⟨b, off, e, hb, hc⟩ => .inr ⟨b, off, e, hb, fun j hj => by
      obtain ⟨h1, a', c', h2, h3, h4⟩ := hc j hj
      exact ⟨(h.cell (p := ⟨b, off + j * 2, none⟩) hb).trans h1, a', c', (h.cell (p := ⟨b, off + j * 2 + 1, none⟩) hb).trans h2, h3.below h, h4⟩⟩
theorem Typs.mono {n₀ n₁ : Nat} (hn : n₀ ≤ n₁) {A : World} {a : Option Addr} {ts : List Ty} : Typs n₀ A a ts → Typs n₁ A a ts
  | .inl e => .inl e
  | .inr ⟨b, off, e, hb, hc⟩ => .inr ⟨b, off, e, Nat.lt_of_lt_of_le hb hn, fun j hj => by
      obtain ⟨h1, a', c', h2, h3, h4⟩ := hc j hj
      exact ⟨h1, a', c', h2, h3.mono hn, h4⟩⟩
theorem Typs.on {A B : World} {a : Option Addr} {ts : List Ty} (h : Typs A.heap.size A a ts) (hb : Below A.heap.size A B) : Typs B.heap.size B a ts := (h.below hb).mono hb.size
def tnames (ts : List Ty) : List Txt := ts.map fun f => f.1
theorem tnames_len (ts : List Ty) : (tnames ts).length = ts.length := by simp [tnames]
theorem Typs.names {n₀ : Nat} {W : World} {a : Option Addr} {ts : List Ty} : Typs n₀ W a ts → TNames n₀ W a (tnames ts)
  | .inl e => .inl (by rw [e]; rfl)
  | .inr ⟨b, off, e, hb, hc⟩ => .inr ⟨b, off, e, hb, fun j hj => by
      rw [tnames_len] at hj
      obtain ⟨h1, a', c', h2, _⟩ := hc j hj
      refine ⟨h1.trans ?_, _, _, _, h2⟩
      simp [ty, tx, tnames, hj]⟩

theorem types11t (a : Option Addr) (cap : Nat) (ts : List Ty) (h5 : ts.length ≤ 5) (w : World) (hT : Typs w.heap.size w a ts) :
    Calls Try.prog 11 #[.slice a ts.length cap] w fun e w' => ∃ Bs, e = .returned (.func (.func 22) #[] #[.pointer (some ⟨Bs, 0, none⟩)]) ∧ Gives w' 22 Bs (tnames ts) ∧ Below w.heap.size w w' := by
  have h := types11g a cap (tnames ts) (by rw [tnames_len]; exact h5) w hT.names
  rw [tnames_len] at h
  exact h

def anyBadT (ts : List Ty) : Bool := ts.any fun t => badF t.2
theorem anyBadT_snoc (ts : List Ty) (f : Ty) : anyBadT (ts ++ [f]) = (anyBadT ts || badF f.2) := by simp [anyBadT]

set_option maxHeartbeats 1000000 in
theorem index25 (a : Option Addr) (cap : Nat) (ts : List Ty) (h5 : ts.length ≤ 5) (w : World) (hF : Typs w.heap.size w a ts) :
    Calls Try.prog 25 #[.slice a ts.length cap, .func (.func 15) #[] #[]] w fun e w' => ∃ i : Int, e = .returned (.int .i64 i) ∧ decide (0 ≤ i) = anyBadT ts ∧ Below w.heap.size w w' := by
  rcases hF with rfl | ⟨b, off, rfl, hb, hc⟩
  · go_enter Try.func25, Try.ntmps25
    go_wp2
    go_loopw [8] (fun i wr => i = .int .i64 0 ∧ Below w.heap.size w wr) (fun _ _ => 0)
    case atStart => exact ⟨rfl, Below.refl _ _⟩
    case round =>
      obtain ⟨rfl, hb⟩ := hrel
      go_wp2
      go_ret
      exact ⟨_, rfl, by simp [anyBadT], hb⟩
  · have hc := hide hc
    go_enter Try.func25, Try.ntmps25
    go_wp2
    go_loopw [8] (fun i wr => ∃ k : Nat, k ≤ ts.length ∧ i = .int .i64 k ∧ anyBadT (ts.take k) = false ∧ Below w.heap.size w wr) (fun i _ => ts.length - (intOf i).toNat)
    case atStart => exact ⟨0, Nat.zero_le _, rfl, rfl, Below.refl _ _⟩
    case round =>
      obtain ⟨k, hk, rfl, hall, hbw⟩ := hrel
      have H := hide hall
      clear hall
      by_cases hlt : k < ts.length
      · obtain ⟨g1, a', c', g2, g3, g4⟩ := unhide hc k hlt
        have hc1 : wr.cell? ⟨b, off + k * 2, none⟩ = some (.string (ty ts k).1.1) := (hbw.cell (p := ⟨b, off + k * 2, none⟩) hb).trans g1
        have hc2 : wr.cell? ⟨b, off + k * 2 + 1, none⟩ = some (.slice a' (ty ts k).2.length c') := (hbw.cell (p := ⟨b, off + k * 2 + 1, none⟩) hb).trans g2
        have hF := g3.on hbw
        have hsucc := hide (show ts.take (k + 1) = ts.take k ++ [ty ts k] by rw [List.take_succ_eq_append_getElem hlt]; simp [ty, hlt])
        clear g1 g2 g3
        cases hbad : badF (ty ts k).2
        · go_wp2_with fail
          refine (badFields15 _ _ _ _ g4 _ hF).mono ?_
          rintro e w2 ⟨rfl, hb2⟩
          rw [hbad]
          go_wp2_with fail
          go_roundw
          case rel => exact ⟨k + 1, by omega, by go_num, by rw [unhide hsucc, anyBadT_snoc, unhide H, hbad]; rfl, hbw.trans (hb2.mono hbw.size)⟩
          case measure => simp [intOf]; omega
        · go_wp2_with fail
          refine (badFields15 _ _ _ _ g4 _ hF).mono ?_
          rintro e w2 ⟨rfl, hb2⟩
          rw [hbad]
          go_wp2_with fail
          go_ret
          refine ⟨_, rfl, ?_, hbw.trans (hb2.mono hbw.size)⟩
          have h1 : anyBadT (ts.take (k + 1)) = true := by rw [unhide hsucc, anyBadT_snoc, hbad, Bool.or_true]
          have h2 : anyBadT ts = true := by
            unfold anyBadT at h1 ⊢
            rw [List.any_eq_true] at h1 ⊢
            obtain ⟨x, hx, hb⟩ := h1
            exact ⟨x, List.mem_of_mem_take hx, hb⟩
          rw [h2]; simp
      · go_wp2
        go_ret
        refine ⟨_, rfl, ?_, hbw⟩
        have := unhide H
        rw [List.take_of_length_le (by omega)] at this
        rw [this]; rfl

set_option maxHeartbeats 400000 in
theorem contains14 (a : Option Addr) (cap : Nat) (ts : List Ty) (h5 : ts.length ≤ 5) (w : World) (hF : Typs w.heap.size w a ts) :
    Calls Try.prog 14 #[.slice a ts.length cap, .func (.func 15) #[] #[]] w fun e w' => e = .returned (.bool (anyBadT ts)) ∧ Below w.heap.size w w' := by
  go_enter Try.func14, Try.ntmps14
  go_wp2_with fail
  refine (index25 a cap ts h5 w hF).mono ?_
  rintro e w1 ⟨i, rfl, hi, hb1⟩
  have hi := hide hi
  go_wp2_with fail
  go_ret
  exact ⟨by rw [← unhide hi]; rfl, hb1⟩

/-- A schema that may be. -/
def isS (ts : List Ty) : Bool := decide (ts.length ≤ 5) && namesB (tnames ts) && riseB (txts (tnames ts)) && !anyBadT ts

set_option maxHeartbeats 1000000 in
theorem is6 (a : Option Addr) (cap : Nat) (ts : List Ty) (hm : ts.length ≤ maxLen) (w : World) (hF : Typs w.heap.size w a ts) :
    Calls Try.prog 6 #[.agg #[.slice a ts.length cap]] w fun e w' => e = .returned (.bool (isS ts)) ∧ Below w.heap.size w w' := by
  unfold maxLen at hm
  have b0 : Below w.heap.size w (w.alloc (.cells #[.slice a ts.length cap] 25)) := (Below.refl _ _).alloc (Nat.le_refl _) _
  have s0 := hF.on b0
  by_cases h5 : ts.length ≤ 5
  · have hl5 := h5
    have hS5 : (txts (tnames ts)).length ≤ 5 := by simp [txts, tnames]; exact h5
    have hle : (ts.length : Int) ≤ 5 := by omega
    cases hn : namesB (tnames ts)
    · have H := hide (show isS ts = false by simp [isS, hn])
      clear hS5
      go_enter Try.func6, Try.ntmps6
      go_wp2_with fail
      refine (types11t a cap ts hl5 _ s0).mono ?_
      rintro e w1 ⟨B1, rfl, hg1, hb1⟩
      go_wp2_with fail
      refine (allNames10 _ _ _ _ hg1).mono ?_
      rintro e w2 ⟨rfl, hb2⟩
      rw [hn]
      go_wp2_with fail
      go_ret
      have b1 := b0.trans (hb1.mono b0.size)
      exact ⟨by rw [unhide H]; rfl, b1.trans (hb2.mono b1.size)⟩
    · have hcb : ∀ w1, Below w.heap.size.succ (w.alloc (.cells #[.slice a ts.length cap] 25)) w1 → w1.cell? ⟨w.heap.size, 0, none⟩ = some (.slice a ts.length cap) := fun w1 hb => (hb.cell (p := ⟨w.heap.size, 0, none⟩) (by simp)).trans (by simp)
      cases hr : riseB (txts (tnames ts))
      · have H := hide (show isS ts = false by simp [isS, hr])
        go_enter Try.func6, Try.ntmps6
        go_wp2_with fail
        refine (types11t a cap ts hl5 _ s0).mono ?_
        rintro e w1 ⟨B1, rfl, hg1, hb1⟩
        go_wp2_with fail
        refine (allNames10 _ _ _ _ hg1).mono ?_
        rintro e w2 ⟨rfl, hb2⟩
        rw [hn]
        have b2 := hb1.trans (hb2.mono hb1.size)
        have s2 := s0.on b2
        have hc2 := hcb w2 (b2.mono (by simp))
        go_wp2_with fail
        refine (types11t a cap ts hl5 _ s2).mono ?_
        rintro e w3 ⟨B3, rfl, hg3, hb3⟩
        go_wp2_with fail
        refine (collect13 _ _ _ _ hg3).mono ?_
        rintro e w4 ⟨a4, c4, rfl, st4, hb4⟩
        go_wp2_with fail
        refine (rise12 _ _ _ _ hS5 _ st4).mono ?_
        rintro e w5 ⟨rfl, hb5⟩
        rw [hr]
        go_wp2_with fail
        go_ret
        have b3 := b2.trans (hb3.mono b2.size)
        have b4 := b3.trans (hb4.mono b3.size)
        have b5 := b4.trans (hb5.mono b4.size)
        exact ⟨by rw [unhide H]; rfl, b0.trans (b5.mono b0.size)⟩
      · have H := hide (show isS ts = !anyBadT ts by simp [isS, hr, hn]; omega)
        go_enter Try.func6, Try.ntmps6
        go_wp2_with fail
        refine (types11t a cap ts hl5 _ s0).mono ?_
        rintro e w1 ⟨B1, rfl, hg1, hb1⟩
        go_wp2_with fail
        refine (allNames10 _ _ _ _ hg1).mono ?_
        rintro e w2 ⟨rfl, hb2⟩
        rw [hn]
        have b2 := hb1.trans (hb2.mono hb1.size)
        have s2 := s0.on b2
        have hc2 := hcb w2 (b2.mono (by simp))
        go_wp2_with fail
        refine (types11t a cap ts hl5 _ s2).mono ?_
        rintro e w3 ⟨B3, rfl, hg3, hb3⟩
        go_wp2_with fail
        refine (collect13 _ _ _ _ hg3).mono ?_
        rintro e w4 ⟨a4, c4, rfl, st4, hb4⟩
        go_wp2_with fail
        refine (rise12 _ _ _ _ hS5 _ st4).mono ?_
        rintro e w5 ⟨rfl, hb5⟩
        rw [hr]
        have b3 := b2.trans (hb3.mono b2.size)
        have b4 := b3.trans (hb4.mono b3.size)
        have b5 := b4.trans (hb5.mono b4.size)
        have s5 := s0.on b5
        have hc5 := hcb w5 (b5.mono (by simp))
        go_wp2_with fail
        refine (contains14 a cap ts hl5 _ s5).mono ?_
        rintro e w6 ⟨rfl, hb6⟩
        go_wp2_with fail
        go_ret
        have b6 := b5.trans (hb6.mono b5.size)
        exact ⟨by rw [unhide H]; rfl, b0.trans (b6.mono b0.size)⟩
  · have H := hide (show isS ts = false by simp [isS]; omega)
    have hle : ¬ (ts.length : Int) ≤ 5 := by omega
    go_enter Try.func6, Try.ntmps6
    go_wp2_with fail
    go_ret
    exact ⟨by rw [unhide H]; rfl, b0⟩

end Go.Proofs.Ytndjoopnldnckaa
