/-
  What hasBadKind and slices.ContainsFunc over it answer of fields: for every row of them, in whatever world; nothing that lay is turned.
  What hasBadFields answers of a type: for every type, in whatever world; nothing that lay is turned.
  What schema's Is answers: for every schema, in whatever world; nothing that lay is turned.
  Rows of texts, as lists: that a row rises says that each is below all behind it; that a sorted row rises says that none stands twice; where a name of such a row stands.
-/
import Derived.Test.YtcjpaldijngnpaaGreatScSort
import Derived.Sort.Walk0
namespace Go.Proofs.YtcjpaldijngnpaaGreat.Sc
open Go.RowKit Go.Shelf

/-- A field: its name, its kind. -/
abbrev Fd := Txt × Int
abbrev fd (fs : List Fd) (j : Nat) : Fd := fs[j]?.getD default
/-- The slice at a has these fields, below n₀. -/
def Flds (n₀ : Nat) (W : World) (a : Option Addr) (fs : List Fd) : Prop :=
  fs = [] ∨ ∃ b off, a = some ⟨b, off, none⟩ ∧ b < n₀ ∧ ∀ j, j < fs.length → W.cell? ⟨b, off + j * 2, none⟩ = some (.string (fd fs j).1.1) ∧ W.cell? ⟨b, off + j * 2 + 1, none⟩ = some (.int .i64 (fd fs j).2)
theorem Flds.below {n₀ : Nat} {A B : World} (h : Below n₀ A B) {a : Option Addr} {fs : List Fd} : Flds n₀ A a fs → Flds n₀ B a fs
  | .inl e => .inl e
  | .inr ⟨b, off, e, hb, hc⟩ => .inr ⟨b, off, e, hb, fun j hj => ⟨(h.cell (p := ⟨b, off + j * 2, none⟩) hb).trans (hc j hj).1, (h.cell (p := ⟨b, off + j * 2 + 1, none⟩) hb).trans (hc j hj).2⟩⟩
theorem Flds.mono {n₀ n₁ : Nat} (hn : n₀ ≤ n₁) {A : World} {a : Option Addr} {fs : List Fd} : Flds n₀ A a fs → Flds n₁ A a fs
  | .inl e => .inl e
  | .inr ⟨b, off, e, hb, hc⟩ => .inr ⟨b, off, e, Nat.lt_of_lt_of_le hb hn, hc⟩
theorem Flds.on {A B : World} {a : Option Addr} {fs : List Fd} (h : Flds A.heap.size A a fs) (hb : Below A.heap.size A B) : Flds B.heap.size B a fs := (h.below hb).mono hb.size
def fnames (fs : List Fd) : List Txt := fs.map fun f => f.1
theorem fnames_len (fs : List Fd) : (fnames fs).length = fs.length := by simp [fnames]
theorem Flds.names {n₀ : Nat} {W : World} {a : Option Addr} {fs : List Fd} : Flds n₀ W a fs → FNames n₀ W a (fnames fs)
  | .inl e => .inl (by rw [e]; rfl)
  | .inr ⟨b, off, e, hb, hc⟩ => .inr ⟨b, off, e, hb, fun j hj => by
      rw [fnames_len] at hj
      refine ⟨(hc j hj).1.trans ?_, _, (hc j hj).2⟩
      simp [fd, tx, fnames, hj]⟩

/-- No kind that there is. -/
def badK (k : Int) : Bool := !(decide (k = 1) || decide (k = 2) || decide (k = 3))
theorem isB_zero (k : Int) : isB (zeroK k) 0 ⟨#[]⟩ = !badK k := by
  have e : (⟨#[]⟩ : ByteArray).toList = [] := by unfold ByteArray.toList ByteArray.toList.loop; rfl
  have t : isTextB ⟨#[]⟩ = true := by decide
  have i : inB 0 1 0 = true := by decide
  unfold zeroK badK
  by_cases h1 : k = 1
  · subst h1; simp [isB, e]
  by_cases h2 : k = 2
  · subst h2; simp [isB, t]
  by_cases h3 : k = 3
  · subst h3; simp [isB, e, i]
  · simp [isB, h1, h2, h3]

set_option maxHeartbeats 400000 in
theorem badKind28 (s : ByteArray) (k : Int) (w : World) :
    Calls Tryz.prog 58 #[.agg #[.string s, .int .i64 k]] w fun e w' => e = .returned (.bool (badK k)) ∧ Below w.heap.size w w' := by
  have hk := isB_zero k
  go_enter Tryz.func58, Tryz.ntmps58
  go_wp2_with fail
  refine (zero37 _ _).mono ?_
  rintro e w1 ⟨rfl, hb1⟩
  go_wp2_with fail
  refine (is36 _ _ _ _ (by decide)).mono ?_
  rintro e w2 ⟨rfl, hb2⟩
  rw [hk]
  clear hk
  go_wp2_with fail
  go_ret
  have b1 := ((Below.refl _ w).alloc (Nat.le_refl _) (.cells #[.string s, .int .i64 k] 44)).trans (hb1.mono (by simp))
  exact ⟨by simp, b1.trans (hb2.mono b1.size)⟩

def anyBad (fs : List Fd) : Bool := fs.any fun f => badK f.2
theorem anyBad_snoc (fs : List Fd) (f : Fd) : anyBad (fs ++ [f]) = (anyBad fs || badK f.2) := by simp [anyBad]

set_option maxHeartbeats 1000000 in
theorem index35 (a : Option Addr) (cap : Nat) (fs : List Fd) (h5 : fs.length ≤ 5) (w : World) (hF : Flds w.heap.size w a fs) :
    Calls Tryz.prog 76 #[.slice a fs.length cap, .func (.func 58) #[] #[]] w fun e w' => ∃ i : Int, e = .returned (.int .i64 i) ∧ decide (0 ≤ i) = anyBad fs ∧ Below w.heap.size w w' := by
  rcases hF with rfl | ⟨b, off, rfl, hb, hc⟩
  · go_enter Tryz.func76, Tryz.ntmps76
    go_wp2
    go_loopw [8] (fun i wr => i = .int .i64 0 ∧ Below w.heap.size w wr) (fun _ _ => 0)
    case atStart => exact ⟨rfl, Below.refl _ _⟩
    case round =>
      obtain ⟨rfl, hb⟩ := hrel
      go_wp2
      go_ret
      exact ⟨_, rfl, by simp [anyBad], hb⟩
  · have hc := hide hc
    go_enter Tryz.func76, Tryz.ntmps76
    go_wp2
    go_loopw [8] (fun i wr => ∃ k : Nat, k ≤ fs.length ∧ i = .int .i64 k ∧ anyBad (fs.take k) = false ∧ Below w.heap.size w wr) (fun i _ => fs.length - (intOf i).toNat)
    case atStart => exact ⟨0, Nat.zero_le _, rfl, rfl, Below.refl _ _⟩
    case round =>
      obtain ⟨k, hk, rfl, hall, hbw⟩ := hrel
      have H := hide hall
      clear hall
      by_cases hlt : k < fs.length
      · have hc1 : wr.cell? ⟨b, off + k * 2, none⟩ = some (.string (fd fs k).1.1) := (hbw.cell (p := ⟨b, off + k * 2, none⟩) hb).trans (unhide hc k hlt).1
        have hc2 : wr.cell? ⟨b, off + k * 2 + 1, none⟩ = some (.int .i64 (fd fs k).2) := (hbw.cell (p := ⟨b, off + k * 2 + 1, none⟩) hb).trans (unhide hc k hlt).2
        have hsucc := hide (show fs.take (k + 1) = fs.take k ++ [fd fs k] by rw [List.take_succ_eq_append_getElem hlt]; simp [fd, hlt])
        cases hbad : badK (fd fs k).2
        · go_wp2_with fail
          refine (badKind28 _ _ _).mono ?_
          rintro e w2 ⟨rfl, hb2⟩
          rw [hbad]
          go_wp2_with fail
          go_roundw
          case rel => exact ⟨k + 1, by omega, by go_num, by rw [unhide hsucc, anyBad_snoc, unhide H, hbad]; rfl, hbw.trans (hb2.mono hbw.size)⟩
          case measure => simp [intOf]; omega
        · go_wp2_with fail
          refine (badKind28 _ _ _).mono ?_
          rintro e w2 ⟨rfl, hb2⟩
          rw [hbad]
          go_wp2_with fail
          go_ret
          refine ⟨_, rfl, ?_, hbw.trans (hb2.mono hbw.size)⟩
          have h1 : anyBad (fs.take (k + 1)) = true := by rw [unhide hsucc, anyBad_snoc, hbad, Bool.or_true]
          have h2 : anyBad fs = true := by
            unfold anyBad at h1 ⊢
            rw [List.any_eq_true] at h1 ⊢
            obtain ⟨x, hx, hb⟩ := h1
            exact ⟨x, List.mem_of_mem_take hx, hb⟩
          rw [h2]; simp
      · go_wp2
        go_ret
        refine ⟨_, rfl, ?_, hbw⟩
        have := unhide H
        rw [List.take_of_length_le (by omega)] at this
        rw [this]; rfl

set_option maxHeartbeats 400000 in
theorem contains27 (a : Option Addr) (cap : Nat) (fs : List Fd) (h5 : fs.length ≤ 5) (w : World) (hF : Flds w.heap.size w a fs) :
    Calls Tryz.prog 57 #[.slice a fs.length cap, .func (.func 58) #[] #[]] w fun e w' => e = .returned (.bool (anyBad fs)) ∧ Below w.heap.size w w' := by
  go_enter Tryz.func57, Tryz.ntmps57
  go_wp2_with fail
  refine (index35 a cap fs h5 w hF).mono ?_
  rintro e w1 ⟨i, rfl, hi, hb1⟩
  have hi := hide hi
  go_wp2_with fail
  go_ret
  exact ⟨by rw [← unhide hi]; rfl, hb1⟩

end Go.Proofs.YtcjpaldijngnpaaGreat.Sc

namespace Go.Proofs.YtcjpaldijngnpaaGreat.Sc
open Go.RowKit Go.Shelf

theorem rise12 (a : Option Addr) (len cap : Nat) (ss : List ByteArray) (h5 : ss.length ≤ 5) (w : World) (hI : Strs w.heap.size w (.slice a len cap) ss) :
    Calls Tryz.prog 32 #[.slice a len cap] w fun e W' => e = .returned (.bool (riseB ss)) ∧ Below w.heap.size w W' := callsIn_wide.1 (rise_in 3 (Nat.le_refl _) a len cap ss (by omega) w hI)
theorem types11 (a : Option Addr) (len cap : Nat) (w : World) :
    Calls Tryz.prog 31 #[.slice a len cap] w fun e w' => e = .returned (.func (.func 51) #[] #[.pointer (some ⟨w.heap.size, 0, none⟩)]) ∧ w' = w.alloc (.cells #[.slice a len cap] 31) := callsIn_wide.1 (types_in 3 a len cap w)
theorem fields18 (a : Option Addr) (len cap : Nat) (w : World) :
    Calls Tryz.prog 55 #[.slice a len cap] w fun e w' => e = .returned (.func (.func 74) #[] #[.pointer (some ⟨w.heap.size, 0, none⟩)]) ∧ w' = w.alloc (.cells #[.slice a len cap] 28) := callsIn_wide.1 (fields_in 3 a len cap w)

/-- The same, said by what it gives. -/
theorem fields18g (a : Option Addr) (cap : Nat) (fs : List Fd) (h5 : fs.length ≤ 5) (w : World) (hF : Flds w.heap.size w a fs) :
    Calls Tryz.prog 55 #[.slice a fs.length cap] w fun e w' => ∃ Bs, e = .returned (.func (.func 74) #[] #[.pointer (some ⟨Bs, 0, none⟩)]) ∧ Gives w' 74 Bs (fnames fs) ∧ Below w.heap.size w w' := by
  refine (fields18 a fs.length cap w).mono ?_
  rintro e w' ⟨rfl, rfl⟩
  have hg := fields_give w a cap (fnames fs) (by rw [fnames_len]; exact h5) hF.names
  rw [fnames_len] at hg
  exact ⟨_, rfl, hg, (Below.refl _ _).alloc (Nat.le_refl _) _⟩
theorem types11g (a : Option Addr) (cap : Nat) (ns : List Txt) (h5 : ns.length ≤ 5) (w : World) (hT : TNames w.heap.size w a ns) :
    Calls Tryz.prog 31 #[.slice a ns.length cap] w fun e w' => ∃ Bs, e = .returned (.func (.func 51) #[] #[.pointer (some ⟨Bs, 0, none⟩)]) ∧ Gives w' 51 Bs ns ∧ Below w.heap.size w w' := by
  refine (types11 a ns.length cap w).mono ?_
  rintro e w' ⟨rfl, rfl⟩
  exact ⟨_, rfl, types_give w a cap ns h5 hT, (Below.refl _ _).alloc (Nat.le_refl _) _⟩

/-- Fields that may not be. -/
def badF (fs : List Fd) : Bool := decide (5 < fs.length) || !namesB (fnames fs) || !riseB (sortT (fnames fs)) || anyBad fs

set_option maxHeartbeats 1000000 in
theorem badFields15 (nm : ByteArray) (a : Option Addr) (cap : Nat) (fs : List Fd) (hm : fs.length ≤ maxLen) (w : World) (hF : Flds w.heap.size w a fs) :
    Calls Tryz.prog 35 #[.agg #[.string nm, .slice a fs.length cap]] w fun e w' => e = .returned (.bool (badF fs)) ∧ Below w.heap.size w w' := by
  unfold maxLen at hm
  have b0 : Below w.heap.size w (w.alloc (.cells #[.string nm, .slice a fs.length cap] 30)) := (Below.refl _ _).alloc (Nat.le_refl _) _
  have s0 := hF.on b0
  by_cases h5 : fs.length ≤ 5
  · have hl5 := h5
    have hsl := sortT_len (fnames fs)
    have hfl := fnames_len fs
    have hS5 : (sortT (fnames fs)).length ≤ 5 := by omega
    clear hsl hfl
    have hlt : ¬ (5 : Int) < fs.length := by omega
    cases hn : namesB (fnames fs)
    · have H := hide (show badF fs = true by simp [badF, hn])
      clear hS5
      go_enter Tryz.func35, Tryz.ntmps35
      go_wp2_with fail
      refine (fields18g a cap fs hl5 _ s0).mono ?_
      rintro e w1 ⟨B1, rfl, hg1, hb1⟩
      go_wp2_with fail
      refine (allNames10 _ _ _ _ hg1).mono ?_
      rintro e w2 ⟨rfl, hb2⟩
      rw [hn]
      go_wp2_with fail
      go_ret
      have b1 := b0.trans (hb1.mono b0.size)
      exact ⟨by rw [unhide H]; rfl, b1.trans (hb2.mono b1.size)⟩
    · have hcb : ∀ w1, Below w.heap.size.succ (w.alloc (.cells #[.string nm, .slice a fs.length cap] 30)) w1 → w1.cell? ⟨w.heap.size, 1, none⟩ = some (.slice a fs.length cap) := fun w1 hb => (hb.cell (p := ⟨w.heap.size, 1, none⟩) (by simp)).trans (by simp)
      cases hr : riseB (sortT (fnames fs))
      · have H := hide (show badF fs = true by simp [badF, hr])
        go_enter Tryz.func35, Tryz.ntmps35
        go_wp2_with fail
        refine (fields18g a cap fs hl5 _ s0).mono ?_
        rintro e w1 ⟨B1, rfl, hg1, hb1⟩
        go_wp2_with fail
        refine (allNames10 _ _ _ _ hg1).mono ?_
        rintro e w2 ⟨rfl, hb2⟩
        rw [hn]
        have b2 := hb1.trans (hb2.mono hb1.size)
        have s2 := s0.on b2
        have hc2 := hcb w2 (b2.mono (by simp))
        go_wp2_with fail
        refine (fields18g a cap fs hl5 _ s2).mono ?_
        rintro e w3 ⟨B3, rfl, hg3, hb3⟩
        go_wp2_with fail
        refine (sorted26 _ _ _ _ hg3).mono ?_
        rintro e w4 ⟨a4, c4, rfl, st4, hb4⟩
        go_wp2_with fail
        refine (rise12 _ _ _ _ hS5 _ st4).mono ?_
        rintro e w5 ⟨rfl, hb5⟩
        rw [hr]
        go_wp2_with fail
        go_ret
        have b3 := b2.trans (hb3.mono b2.size)
        have b4 := b3.trans (hb4.mono b3.size)
        have b5 := b4.trans (hb5.mono b4.size)
        exact ⟨by rw [unhide H]; rfl, b0.trans (b5.mono b0.size)⟩
      · have H := hide (show badF fs = anyBad fs by simp [badF, hr, hn]; omega)
        go_enter Tryz.func35, Tryz.ntmps35
        go_wp2_with fail
        refine (fields18g a cap fs hl5 _ s0).mono ?_
        rintro e w1 ⟨B1, rfl, hg1, hb1⟩
        go_wp2_with fail
        refine (allNames10 _ _ _ _ hg1).mono ?_
        rintro e w2 ⟨rfl, hb2⟩
        rw [hn]
        have b2 := hb1.trans (hb2.mono hb1.size)
        have s2 := s0.on b2
        have hc2 := hcb w2 (b2.mono (by simp))
        go_wp2_with fail
        refine (fields18g a cap fs hl5 _ s2).mono ?_
        rintro e w3 ⟨B3, rfl, hg3, hb3⟩
        go_wp2_with fail
        refine (sorted26 _ _ _ _ hg3).mono ?_
        rintro e w4 ⟨a4, c4, rfl, st4, hb4⟩
        go_wp2_with fail
        refine (rise12 _ _ _ _ hS5 _ st4).mono ?_
        rintro e w5 ⟨rfl, hb5⟩
        rw [hr]
        have b3 := b2.trans (hb3.mono b2.size)
        have b4 := b3.trans (hb4.mono b3.size)
        have b5 := b4.trans (hb5.mono b4.size)
        have s5 := s0.on b5
        have hc5 := hcb w5 (b5.mono (by simp))
        go_wp2_with fail
        refine (contains27 a cap fs hl5 _ s5).mono ?_
        rintro e w6 ⟨rfl, hb6⟩
        go_wp2_with fail
        go_ret
        have b6 := b5.trans (hb6.mono b5.size)
        exact ⟨by rw [unhide H]; rfl, b0.trans (b6.mono b0.size)⟩
  · have H := hide (show badF fs = true by simp [badF]; omega)
    have hlt : (5 : Int) < fs.length := by omega
    go_enter Tryz.func35, Tryz.ntmps35
    go_wp2_with fail
    go_ret
    exact ⟨by rw [unhide H]; rfl, b0⟩

end Go.Proofs.YtcjpaldijngnpaaGreat.Sc

namespace Go.Proofs.YtcjpaldijngnpaaGreat.Sc
open Go.RowKit Go.Shelf

/-- A type: its name, its fields. -/
abbrev Ty := Txt × List Fd
abbrev ty (ts : List Ty) (j : Nat) : Ty := ts[j]?.getD default
/-- The slice at a has these types, below n₀. -/
def Typs (n₀ : Nat) (W : World) (a : Option Addr) (ts : List Ty) : Prop :=
  ts = [] ∨ ∃ b off, a = some ⟨b, off, none⟩ ∧ b < n₀ ∧ ∀ j, j < ts.length → W.cell? ⟨b, off + j * 2, none⟩ = some (.string (ty ts j).1.1) ∧
    ∃ a' c', W.cell? ⟨b, off + j * 2 + 1, none⟩ = some (.slice a' (ty ts j).2.length c') ∧ Flds n₀ W a' (ty ts j).2 ∧ (ty ts j).2.length ≤ maxLen
theorem Typs.below {n₀ : Nat} {A B : World} (h : Below n₀ A B) {a : Option Addr} {ts : List Ty} : Typs n₀ A a ts → Typs n₀ B a ts
  | .inl e => .inl e
  | .inr ⟨b, off, e, hb, hc⟩ => .inr ⟨b, off, e, hb, fun j hj => by
      obtain ⟨h1, a', c', h2, h3, h4⟩ := hc j hj
      exact ⟨(h.cell (p := ⟨b, off + j * 2, none⟩) hb).trans h1, a', c', (h.cell (p := ⟨b, off + j * 2 + 1, none⟩) hb).trans h2, h3.below h, h4⟩⟩
theorem Typs.mono {n₀ n₁ : Nat} (hn : n₀ ≤ n₁) {A : World} {a : Option Addr} {ts : List Ty} : Typs n₀ A a ts → Typs n₁ A a ts
  | .inl e => .inl e
  | .inr ⟨b, off, e, hb, hc⟩ => .inr ⟨b, off, e, Nat.lt_of_lt_of_le hb hn, fun j hj => by
      obtain ⟨h1, a', c', h2, h3, h4⟩ := hc j hj
      exact ⟨h1, a', c', h2, h3.mono hn, h4⟩⟩
theorem Typs.on {A B : World} {a : Option Addr} {ts : List Ty} (h : Typs A.heap.size A a ts) (hb : Below A.heap.size A B) : Typs B.heap.size B a ts := (h.below hb).mono hb.size
def tnames (ts : List Ty) : List Txt := ts.map fun f => f.1
theorem tnames_len (ts : List Ty) : (tnames ts).length = ts.length := by simp [tnames]
theorem Typs.names {n₀ : Nat} {W : World} {a : Option Addr} {ts : List Ty} : Typs n₀ W a ts → TNames n₀ W a (tnames ts)
  | .inl e => .inl (by rw [e]; rfl)
  | .inr ⟨b, off, e, hb, hc⟩ => .inr ⟨b, off, e, hb, fun j hj => by
      rw [tnames_len] at hj
      obtain ⟨h1, a', c', h2, _⟩ := hc j hj
      refine ⟨h1.trans ?_, _, _, _, h2⟩
      simp [ty, tx, tnames, hj]⟩

theorem types11t (a : Option Addr) (cap : Nat) (ts : List Ty) (h5 : ts.length ≤ 5) (w : World) (hT : Typs w.heap.size w a ts) :
    Calls Tryz.prog 31 #[.slice a ts.length cap] w fun e w' => ∃ Bs, e = .returned (.func (.func 51) #[] #[.pointer (some ⟨Bs, 0, none⟩)]) ∧ Gives w' 51 Bs (tnames ts) ∧ Below w.heap.size w w' := by
  have h := types11g a cap (tnames ts) (by rw [tnames_len]; exact h5) w hT.names
  rw [tnames_len] at h
  exact h

def anyBadT (ts : List Ty) : Bool := ts.any fun t => badF t.2
theorem anyBadT_snoc (ts : List Ty) (f : Ty) : anyBadT (ts ++ [f]) = (anyBadT ts || badF f.2) := by simp [anyBadT]

set_option maxHeartbeats 1000000 in
theorem index25 (a : Option Addr) (cap : Nat) (ts : List Ty) (h5 : ts.length ≤ 5) (w : World) (hF : Typs w.heap.size w a ts) :
    Calls Tryz.prog 54 #[.slice a ts.length cap, .func (.func 35) #[] #[]] w fun e w' => ∃ i : Int, e = .returned (.int .i64 i) ∧ decide (0 ≤ i) = anyBadT ts ∧ Below w.heap.size w w' := by
  rcases hF with rfl | ⟨b, off, rfl, hb, hc⟩
  · go_enter Tryz.func54, Tryz.ntmps54
    go_wp2
    go_loopw [8] (fun i wr => i = .int .i64 0 ∧ Below w.heap.size w wr) (fun _ _ => 0)
    case atStart => exact ⟨rfl, Below.refl _ _⟩
    case round =>
      obtain ⟨rfl, hb⟩ := hrel
      go_wp2
      go_ret
      exact ⟨_, rfl, by simp [anyBadT], hb⟩
  · have hc := hide hc
    go_enter Tryz.func54, Tryz.ntmps54
    go_wp2
    go_loopw [8] (fun i wr => ∃ k : Nat, k ≤ ts.length ∧ i = .int .i64 k ∧ anyBadT (ts.take k) = false ∧ Below w.heap.size w wr) (fun i _ => ts.length - (intOf i).toNat)
    case atStart => exact ⟨0, Nat.zero_le _, rfl, rfl, Below.refl _ _⟩
    case round =>
      obtain ⟨k, hk, rfl, hall, hbw⟩ := hrel
      have H := hide hall
      clear hall
      by_cases hlt : k < ts.length
      · obtain ⟨g1, a', c', g2, g3, g4⟩ := unhide hc k hlt
        have hc1 : wr.cell? ⟨b, off + k * 2, none⟩ = some (.string (ty ts k).1.1) := (hbw.cell (p := ⟨b, off + k * 2, none⟩) hb).trans g1
        have hc2 : wr.cell? ⟨b, off + k * 2 + 1, none⟩ = some (.slice a' (ty ts k).2.length c') := (hbw.cell (p := ⟨b, off + k * 2 + 1, none⟩) hb).trans g2
        have hF := g3.on hbw
        have hsucc := hide (show ts.take (k + 1) = ts.take k ++ [ty ts k] by rw [List.take_succ_eq_append_getElem hlt]; simp [ty, hlt])
        clear g1 g2 g3
        cases hbad : badF (ty ts k).2
        · go_wp2_with fail
          refine (badFields15 _ _ _ _ g4 _ hF).mono ?_
          rintro e w2 ⟨rfl, hb2⟩
          rw [hbad]
          go_wp2_with fail
          go_roundw
          case rel => exact ⟨k + 1, by omega, by go_num, by rw [unhide hsucc, anyBadT_snoc, unhide H, hbad]; rfl, hbw.trans (hb2.mono hbw.size)⟩
          case measure => simp [intOf]; omega
        · go_wp2_with fail
          refine (badFields15 _ _ _ _ g4 _ hF).mono ?_
          rintro e w2 ⟨rfl, hb2⟩
          rw [hbad]
          go_wp2_with fail
          go_ret
          refine ⟨_, rfl, ?_, hbw.trans (hb2.mono hbw.size)⟩
          have h1 : anyBadT (ts.take (k + 1)) = true := by rw [unhide hsucc, anyBadT_snoc, hbad, Bool.or_true]
          have h2 : anyBadT ts = true := by
            unfold anyBadT at h1 ⊢
            rw [List.any_eq_true] at h1 ⊢
            obtain ⟨x, hx, hb⟩ := h1
            exact ⟨x, List.mem_of_mem_take hx, hb⟩
          rw [h2]; simp
      · go_wp2
        go_ret
        refine ⟨_, rfl, ?_, hbw⟩
        have := unhide H
        rw [List.take_of_length_le (by omega)] at this
        rw [this]; rfl

set_option maxHeartbeats 400000 in
theorem contains14 (a : Option Addr) (cap : Nat) (ts : List Ty) (h5 : ts.length ≤ 5) (w : World) (hF : Typs w.heap.size w a ts) :
    Calls Tryz.prog 34 #[.slice a ts.length cap, .func (.func 35) #[] #[]] w fun e w' => e = .returned (.bool (anyBadT ts)) ∧ Below w.heap.size w w' := by
  go_enter Tryz.func34, Tryz.ntmps34
  go_wp2_with fail
  refine (index25 a cap ts h5 w hF).mono ?_
  rintro e w1 ⟨i, rfl, hi, hb1⟩
  have hi := hide hi
  go_wp2_with fail
  go_ret
  exact ⟨by rw [← unhide hi]; rfl, hb1⟩

/-- A schema that may be. -/
def isS (ts : List Ty) : Bool := decide (ts.length ≤ 5) && namesB (tnames ts) && riseB (txts (tnames ts)) && !anyBadT ts

set_option maxHeartbeats 1000000 in
theorem is6 (a : Option Addr) (cap : Nat) (ts : List Ty) (hm : ts.length ≤ maxLen) (w : World) (hF : Typs w.heap.size w a ts) :
    Calls Tryz.prog 14 #[.agg #[.slice a ts.length cap]] w fun e w' => e = .returned (.bool (isS ts)) ∧ Below w.heap.size w w' := by
  unfold maxLen at hm
  have b0 : Below w.heap.size w (w.alloc (.cells #[.slice a ts.length cap] 33)) := (Below.refl _ _).alloc (Nat.le_refl _) _
  have s0 := hF.on b0
  by_cases h5 : ts.length ≤ 5
  · have hl5 := h5
    have hS5 : (txts (tnames ts)).length ≤ 5 := by simp [txts, tnames]; exact h5
    have hle : (ts.length : Int) ≤ 5 := by omega
    cases hn : namesB (tnames ts)
    · have H := hide (show isS ts = false by simp [isS, hn])
      clear hS5
      go_enter Tryz.func14, Tryz.ntmps14
      go_wp2_with fail
      refine (types11t a cap ts hl5 _ s0).mono ?_
      rintro e w1 ⟨B1, rfl, hg1, hb1⟩
      go_wp2_with fail
      refine (allNames10 _ _ _ _ hg1).mono ?_
      rintro e w2 ⟨rfl, hb2⟩
      rw [hn]
      go_wp2_with fail
      go_ret
      have b1 := b0.trans (hb1.mono b0.size)
      exact ⟨by rw [unhide H]; rfl, b1.trans (hb2.mono b1.size)⟩
    · have hcb : ∀ w1, Below w.heap.size.succ (w.alloc (.cells #[.slice a ts.length cap] 33)) w1 → w1.cell? ⟨w.heap.size, 0, none⟩ = some (.slice a ts.length cap) := fun w1 hb => (hb.cell (p := ⟨w.heap.size, 0, none⟩) (by simp)).trans (by simp)
      cases hr : riseB (txts (tnames ts))
      · have H := hide (show isS ts = false by simp [isS, hr])
        go_enter Tryz.func14, Tryz.ntmps14
        go_wp2_with fail
        refine (types11t a cap ts hl5 _ s0).mono ?_
        rintro e w1 ⟨B1, rfl, hg1, hb1⟩
        go_wp2_with fail
        refine (allNames10 _ _ _ _ hg1).mono ?_
        rintro e w2 ⟨rfl, hb2⟩
        rw [hn]
        have b2 := hb1.trans (hb2.mono hb1.size)
        have s2 := s0.on b2
        have hc2 := hcb w2 (b2.mono (by simp))
        go_wp2_with fail
        refine (types11t a cap ts hl5 _ s2).mono ?_
        rintro e w3 ⟨B3, rfl, hg3, hb3⟩
        go_wp2_with fail
        refine (collect13 _ _ _ _ hg3).mono ?_
        rintro e w4 ⟨a4, c4, rfl, st4, hb4⟩
        go_wp2_with fail
        refine (rise12 _ _ _ _ hS5 _ st4).mono ?_
        rintro e w5 ⟨rfl, hb5⟩
        rw [hr]
        go_wp2_with fail
        go_ret
        have b3 := b2.trans (hb3.mono b2.size)
        have b4 := b3.trans (hb4.mono b3.size)
        have b5 := b4.trans (hb5.mono b4.size)
        exact ⟨by rw [unhide H]; rfl, b0.trans (b5.mono b0.size)⟩
      · have H := hide (show isS ts = !anyBadT ts by simp [isS, hr, hn]; omega)
        go_enter Tryz.func14, Tryz.ntmps14
        go_wp2_with fail
        refine (types11t a cap ts hl5 _ s0).mono ?_
        rintro e w1 ⟨B1, rfl, hg1, hb1⟩
        go_wp2_with fail
        refine (allNames10 _ _ _ _ hg1).mono ?_
        rintro e w2 ⟨rfl, hb2⟩
        rw [hn]
        have b2 := hb1.trans (hb2.mono hb1.size)
        have s2 := s0.on b2
        have hc2 := hcb w2 (b2.mono (by simp))
        go_wp2_with fail
        refine (types11t a cap ts hl5 _ s2).mono ?_
        rintro e w3 ⟨B3, rfl, hg3, hb3⟩
        go_wp2_with fail
        refine (collect13 _ _ _ _ hg3).mono ?_
        rintro e w4 ⟨a4, c4, rfl, st4, hb4⟩
        go_wp2_with fail
        refine (rise12 _ _ _ _ hS5 _ st4).mono ?_
        rintro e w5 ⟨rfl, hb5⟩
        rw [hr]
        have b3 := b2.trans (hb3.mono b2.size)
        have b4 := b3.trans (hb4.mono b3.size)
        have b5 := b4.trans (hb5.mono b4.size)
        have s5 := s0.on b5
        have hc5 := hcb w5 (b5.mono (by simp))
        go_wp2_with fail
        refine (contains14 a cap ts hl5 _ s5).mono ?_
        rintro e w6 ⟨rfl, hb6⟩
        go_wp2_with fail
        go_ret
        have b6 := b5.trans (hb6.mono b5.size)
        exact ⟨by rw [unhide H]; rfl, b0.trans (b6.mono b0.size)⟩
  · have H := hide (show isS ts = false by simp [isS]; omega)
    have hle : ¬ (ts.length : Int) ≤ 5 := by omega
    go_enter Tryz.func14, Tryz.ntmps14
    go_wp2_with fail
    go_ret
    exact ⟨by rw [unhide H]; rfl, b0⟩

end Go.Proofs.YtcjpaldijngnpaaGreat.Sc

namespace Go.Proofs.YtcjpaldijngnpaaGreat.Sc
open Go.RowKit Go.Shelf

theorem rise_each (ss : List ByteArray) : riseB ss = true ↔ ∀ j, j + 1 < ss.length → (ss[j]?.getD ByteArray.empty).data.toList < (ss[j + 1]?.getD ByteArray.empty).data.toList := by
  unfold riseB allP pairsTo upto lessP
  simp only [List.all_eq_true, List.mem_map, List.mem_range]
  constructor
  · intro h j hj
    have := h _ ⟨j, by omega, rfl⟩
    rw [Go.Proofs.bytesLess_eq, decide_eq_true_eq, ByteArray.toList_eq, ByteArray.toList_eq] at this
    exact this
  · rintro h _ ⟨j, hj, rfl⟩
    rw [Go.Proofs.bytesLess_eq, decide_eq_true_eq, ByteArray.toList_eq, ByteArray.toList_eq]
    exact h j (by omega)

theorem rise_pw (ss : List ByteArray) : riseB ss = true ↔ (ss.map fun s => s.data.toList).Pairwise (· < ·) := by
  rw [rise_each, List.pairwise_iff_getElem]
  constructor
  · intro h i j hi hj hij
    simp only [List.length_map] at hi hj
    simp only [List.getElem_map]
    obtain ⟨d, rfl⟩ : ∃ d, j = i + 1 + d := ⟨j - i - 1, by omega⟩
    clear hij
    induction d with
    | zero =>
      have := h i (by omega)
      simpa [hi, show i + 1 < ss.length by omega] using this
    | succ d ih =>
      have h1 := ih (by omega) (by omega)
      have h2 := h (i + 1 + d) (by omega)
      simp only [show i + 1 + d < ss.length by omega, show i + 1 + d + 1 < ss.length by omega, getElem?_pos, Option.getD_some] at h2
      exact List.lt_trans h1 h2
  · intro h j hj
    have := h j (j + 1) (by simp; omega) (by simp; omega) (by omega)
    simpa [hj, show j < ss.length by omega] using this

theorem bytes_txts (ns : List Txt) : (txts ns).map (fun s => s.data.toList) = bytesOf ns := by simp [txts, bytesOf]
theorem bytes_sortT (ns : List Txt) : (sortT ns).map (fun s => s.data.toList) = sortB ns := by simp [sortT, Function.comp_def]

theorem nodup_of_pw {l : List (List UInt8)} (h : l.Pairwise (· < ·)) : l.Nodup := h.imp fun hab e => by rw [e] at hab; exact List.lt_irrefl _ hab

theorem rise_nodup {ns : List Txt} (h : riseB (txts ns) = true) : (bytesOf ns).Nodup := by
  rw [rise_pw, bytes_txts] at h
  exact nodup_of_pw h

theorem rise_sort (ns : List Txt) : riseB (sortT ns) = true ↔ (bytesOf ns).Nodup := by
  have hp : (sortB ns).Perm (bytesOf ns) := List.mergeSort_perm _ _
  rw [rise_pw, bytes_sortT, ← hp.nodup_iff]
  constructor
  · exact nodup_of_pw
  · intro h
    have hs : (sortB ns).Pairwise (fun a b => decide (a ≤ b) = true) := List.pairwise_mergeSort (fun a b c h1 h2 => by
      rw [decide_eq_true_eq] at *
      exact List.le_trans h1 h2) (fun a b => by
      rcases List.le_total a b with h | h
      · simp [h]
      · simp [h]) _
    refine (hs.and h).imp ?_
    rintro a b ⟨h1, h2⟩
    rw [decide_eq_true_eq] at h1
    rcases Std.lt_trichotomy (α := List UInt8) a b with h3 | h3 | h3
    · exact h3
    · exact absurd h3 h2
    · exact absurd h3 h1

theorem eqT_iff (nm : ByteArray) (x : Txt) : eqT nm x = true ↔ x.1.data.toList = nm.data.toList := by
  unfold eqT
  rw [beq_iff_eq, ByteArray.toList_eq, ByteArray.toList_eq]

/-- In a row without doubles each name stands where it stands. -/
theorem place_self {ns : List Txt} (h : (bytesOf ns).Nodup) (k : Nat) (hk : k < ns.length) : placeN ns (tx ns k) = some k := by
  unfold placeN
  rw [List.findIdx?_eq_some_iff_getElem]
  refine ⟨hk, ?_, ?_⟩
  · rw [eqT_iff]; simp [tx, hk]
  · intro j hj
    rw [eqT_iff]
    intro e
    have hn := List.pairwise_iff_getElem.1 h j k (by simp [bytesOf]; omega) (by simp [bytesOf]; omega) hj
    apply hn
    simp only [bytesOf, List.getElem_map]
    rw [e]
    simp [tx, hk]

/-- A name is found just where one of the row has its bytes. -/
theorem place_isSome (ns : List Txt) (nm : ByteArray) : (placeN ns nm).isSome = ns.any (eqT nm) := by
  simp [placeN, List.findIdx?_isSome]

end Go.Proofs.YtcjpaldijngnpaaGreat.Sc
