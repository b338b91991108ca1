/-
  What EventKinds answers: true, for every row of bytes, two bytes and a time, in whatever world; nothing that lay is turned.
-/
import Derived.Test.YthifciikmdnhaaaMake
import Derived.Deep.CutRange
import Derived.Deep.DeepCutAuto
import Derived.BigRegion
import Derived.Laws.BytesArg
namespace Go.Proofs.Ythifciikmdnhaaa
open Go.RowKit Go.Shelf

theorem conv1 (W : World) (c : Int) : (convert 22 9 (.slice (some ⟨W.heap.size, 0, none⟩) 1 1)).run Try.prog (W.alloc (.cells #[.int .u8 c] 5)) = .ok (.string (strOfNums [c])) (W.alloc (.cells #[.int .u8 c] 5)) :=
  run_convert_bytes_arg _ 22 5 Try.underlying22 Try.underlying5 W.heap.size 0 1 1 [c] rfl (fun i hi => by
    have : i = 0 := by omega
    subst this
    simp) 9 Try.underlying9
theorem str_1 (i : Nat) : strOfNums [97 + (i : Int)] = (t1 (UInt8.ofNat (97 + i))).1 := by
  apply ByteArray.ext
  have : (97 + (i : Int)).toNat = 97 + i := by omega
  simp [t1, strOfNums, this]
theorem cells_two (W : World) (a b : Value) (t : TypeId) : ∀ j u, [a, b][j]? = some u → (W.alloc (.cells #[a, b] t)).cell? ((⟨W.heap.size, 0, none⟩ : Addr).add j) = some u := by
  intro j u h
  rw [WideShapes.add_plain]
  match j, h with
  | 0, h => simp at h; subst h; simp
  | 1, h => simp at h; subst h; simp
theorem cells_two' (W : World) (o : Obj) (a b : Value) (t : TypeId) : ∀ j u, [a, b][j]? = some u → ((W.alloc o).alloc (.cells #[a, b] t)).cell? ((⟨W.heap.size + 1, 0, none⟩ : Addr).add j) = some u := by
  have := cells_two (W.alloc o) a b t
  rwa [World.size_alloc] at this
theorem cells_three (W : World) (a b c : Value) (t : TypeId) : ∀ j u, [a, b, c][j]? = some u → (W.alloc (.cells #[a, b, c] t)).cell? ((⟨W.heap.size, 0, none⟩ : Addr).add j) = some u := by
  intro j u h
  rw [WideShapes.add_plain]
  match j, h with
  | 0, h => simp at h; subst h; simp
  | 1, h => simp at h; subst h; simp
  | 2, h => simp at h; subst h; simp

/-- What lies behind i rounds: the type in its box, the event in its box, their rows. -/
def InvK (n₀ : Nat) (tm : Int) (bs : Nat → Nat) (w1 W : World) (i : Nat) : Prop :=
  ∃ vf vv, Box W n₀ 26 #[.string ⟨#[116]⟩, vf] ∧ Box W (n₀ + 1) 29 #[.string ⟨#[116]⟩, .int .i64 tm, vv] ∧ W.ownsRow (n₀ + 2) 31 2 vf i (newsF (fsOf bs i)) ∧ W.ownsRow (n₀ + 2) 33 3 vv i (newsV (vsOf bs i)) ∧ Below n₀ w1 W

theorem slice_of_owns {W : World} {base : Nat} {e : TypeId} {size : Nat} {v : Value} {n : Nat} {xs : List Value} (h : W.ownsRow base e size v n xs) : ∃ a c, v = .slice a n c := by
  rcases h.2 with ⟨rfl, h0⟩ | ⟨g, cap, cur, rfl, _⟩
  · exact ⟨none, 0, by rw [h0]⟩
  · exact ⟨_, _, rfl⟩

/-- The fields' append and its store. -/
theorem step_f {n₀ : Nat} {tm : Int} {bs : Nat → Nat} {w1 W Wa w2 : World} {i : Nat} {vf vv v2 : Value} (hbf : Box W n₀ 26 #[.string ⟨#[116]⟩, vf]) (hbe : Box W (n₀ + 1) 29 #[.string ⟨#[116]⟩, .int .i64 tm, vv]) (hf : W.ownsRow (n₀ + 2) 31 2 vf i (newsF (fsOf bs i))) (hv : W.ownsRow (n₀ + 2) 33 3 vv i (newsV (vsOf bs i))) (hB : Below n₀ w1 W)
    (ha : Below W.heap.size W Wa) (hg : Wa.grownBy w2 vf.ownBlock) (ho : w2.ownsRow (n₀ + 2) 31 2 v2 (i + 1) (newsF (fsOf bs i) ++ [.string (t1 (UInt8.ofNat (97 + i))).1, .int .i64 (kdOf bs i)])) :
    Box w2 n₀ 26 #[.string ⟨#[116]⟩, vf] ∧ Box (w2.setCell ⟨n₀, 1, none⟩ v2) n₀ 26 #[.string ⟨#[116]⟩, v2] ∧ Box (w2.setCell ⟨n₀, 1, none⟩ v2) (n₀ + 1) 29 #[.string ⟨#[116]⟩, .int .i64 tm, vv] ∧ (w2.setCell ⟨n₀, 1, none⟩ v2).ownsRow (n₀ + 2) 31 2 v2 (i + 1) (newsF (fsOf bs (i + 1))) ∧ (w2.setCell ⟨n₀, 1, none⟩ v2).ownsRow (n₀ + 2) 33 3 vv i (newsV (vsOf bs i)) ∧ Below n₀ w1 (w2.setCell ⟨n₀, 1, none⟩ v2) := by
  have h1 := grown_box ha hg hbf (owns_ne_box hf hbf (by decide))
  have h2 := grown_box ha hg hbe (owns_ne_box hf hbe (by decide))
  have h3 := grown_owns ha hf hg hv (by decide)
  refine ⟨h1, h1.set 1 v2, h2.other _ _ (by simp), ?_, owns_set h3 _ _ (by simp only; omega), ?_⟩
  · rw [newsF_fsOf]; exact owns_set ho _ _ (by simp only; omega)
  · have hn := Nat.le_of_lt hbf.lt
    have b1 := hB.trans (ha.mono hn)
    exact (b1.grown hg (Nat.le_trans hn ha.size) (fun g e => by have := (owns_lt hf e).1; omega)).setCell (p := ⟨n₀, 1, none⟩) (Nat.le_refl _) _
/-- The values' append and its store. -/
theorem step_v {n₀ : Nat} {tm : Int} {bs : Nat → Nat} {w1 W Wa w2 : World} {i : Nat} {vf vv v2 : Value} (hbf : Box W n₀ 26 #[.string ⟨#[116]⟩, vf]) (hbe : Box W (n₀ + 1) 29 #[.string ⟨#[116]⟩, .int .i64 tm, vv]) (hf : W.ownsRow (n₀ + 2) 31 2 vf (i + 1) (newsF (fsOf bs (i + 1)))) (hv : W.ownsRow (n₀ + 2) 33 3 vv i (newsV (vsOf bs i))) (hB : Below n₀ w1 W)
    (ha : Below W.heap.size W Wa) (hg : Wa.grownBy w2 vv.ownBlock) (ho : w2.ownsRow (n₀ + 2) 33 3 v2 (i + 1) (newsV (vsOf bs i) ++ [.int .i64 (kdOf bs i), .int .i64 0, .string ⟨#[]⟩])) :
    Box w2 (n₀ + 1) 29 #[.string ⟨#[116]⟩, .int .i64 tm, vv] ∧ InvK n₀ tm bs w1 (w2.setCell ⟨n₀ + 1, 2, none⟩ v2) (i + 1) := by
  have h1 := grown_box ha hg hbf (owns_ne_box hv hbf (by decide))
  have h2 := grown_box ha hg hbe (owns_ne_box hv hbe (by decide))
  have h3 := grown_owns ha hv hg hf (by decide)
  refine ⟨h2, vf, v2, h1.other _ _ (by simp), h2.set 2 v2, owns_set h3 _ _ (by simp only; omega), ?_, ?_⟩
  · rw [newsV_vsOf]; exact owns_set ho _ _ (by simp only; omega)
  · have hn := Nat.le_of_lt hbf.lt
    have b1 := hB.trans (ha.mono hn)
    exact (b1.grown hg (Nat.le_trans hn ha.size) (fun g e => by have := (owns_lt hv e).1; omega)).setCell (p := ⟨n₀ + 1, 2, none⟩) (by simp only; omega) _

theorem Vals.cut {k : Nat} {W : World} {a : Option Addr} {vs : List Vl} (h : Vals k W a vs) (m : Nat) : Vals k W a (vs.take m) := by
  rcases h with rfl | ⟨b, off, rfl, hb, hc⟩
  · exact .inl (by simp)
  · refine .inr ⟨b, off, rfl, hb, fun j hj => ?_⟩
    have hjm : j < m := by simp at hj; omega
    have : vl (vs.take m) j = vl vs j := by simp [vl, hjm]
    rw [this]
    exact hc j (by simp at hj; omega)

/-- The schema made, the event in its box, its values in a row of their own. -/
def St (n₀ Bt n : Nat) (tm : Int) (fs : List Fd) (af : Option Addr) (cf : Nat) (w1 W : World) (vv : Value) (vs : List Vl) : Prop :=
  Box W (n₀ + 1) 29 #[.string ⟨#[116]⟩, .int .i64 tm, vv] ∧ W.ownsRow (n₀ + 2) 33 3 vv vs.length (newsV vs) ∧ W.ownsRow (n₀ + 2) 31 2 (.slice af n cf) n (newsF fs) ∧ Box W Bt 26 #[.string ⟨#[116]⟩, .slice af n cf] ∧ Box W (Bt + 1) 36 #[.slice (some ⟨Bt, 0, none⟩) 1 1] ∧ n₀ + 1 < Bt ∧ Below n₀ w1 W
/-- The like, the values anywhere. -/
def St2 (n₀ Bt : Nat) (tm : Int) (fs : List Fd) (w1 W : World) (av : Option Addr) (cv : Nat) (vs : List Vl) : Prop :=
  Box W (n₀ + 1) 29 #[.string ⟨#[116]⟩, .int .i64 tm, .slice av vs.length cv] ∧ Vals W.heap.size W av vs ∧ Typs W.heap.size W (some ⟨Bt, 0, none⟩) (tsT fs) ∧ Box W (Bt + 1) 36 #[.slice (some ⟨Bt, 0, none⟩) 1 1] ∧ Below n₀ w1 W
theorem St.typs {n₀ Bt n : Nat} {tm : Int} {fs : List Fd} {af : Option Addr} {cf : Nat} {w1 W : World} {vv : Value} {vs : List Vl} (hl : fs.length = n) (hm : n ≤ maxLen) (h : St n₀ Bt n tm fs af cf w1 W vv vs) : Typs W.heap.size W (some ⟨Bt, 0, none⟩) (tsT fs) := by
  obtain ⟨_, _, hf, hb, _⟩ := h
  refine .inr ⟨Bt, 0, rfl, hb.lt, fun j hj => ?_⟩
  match j, hj with
  | 0, _ =>
    subst hl
    obtain ⟨a', c', e, hF, _⟩ := flds_of_owns hf
    cases e
    exact ⟨hb.at 0 rfl, af, cf, hb.at 1 rfl, hF, hm⟩
theorem St.less {n₀ Bt n : Nat} {tm : Int} {fs : List Fd} {af : Option Addr} {cf : Nat} {w1 W : World} {av : Option Addr} {cv : Nat} {vs : List Vl} (hl : fs.length = n) (hm : n ≤ maxLen) (h : St n₀ Bt n tm fs af cf w1 W (.slice av vs.length cv) vs) (m : Nat) (hmv : m ≤ vs.length) : St2 n₀ Bt tm fs w1 (W.setCell ⟨n₀ + 1, 2, none⟩ (.slice av m cv)) av cv (vs.take m) := by
  obtain ⟨he, hv, hf, hb, hs, hlt, hB⟩ := h
  have e : (vs.take m).length = m := by simp; omega
  have he' := he.set 2 (.slice av m cv)
  refine ⟨by rw [e]; exact he', ?_, ?_, hs.other _ _ (by simp only; omega), hB.setCell (p := ⟨n₀ + 1, 2, none⟩) (by simp only; omega) _⟩
  · obtain ⟨a', c', e', hV, _⟩ := vals_of_owns hv
    cases e'
    have := (hV.set ⟨n₀ + 1, 2, none⟩ (.slice av m cv) (fun ad e' hh => owns_ne_box hv he (by decide) (by rw [e']; simp only [Value.ownBlock]; rw [← hh]))).cut m
    simpa using this
  · have hb' := hb.other ⟨n₀ + 1, 2, none⟩ (.slice av m cv) (by simp only; omega)
    have hf' := owns_set hf ⟨n₀ + 1, 2, none⟩ (.slice av m cv) (by simp only; omega)
    refine .inr ⟨Bt, 0, rfl, hb'.lt, fun j hj => ?_⟩
    match j, hj with
    | 0, _ =>
      subst hl
      obtain ⟨a', c', e, hF, _⟩ := flds_of_owns hf'
      cases e
      exact ⟨hb'.at 0 rfl, af, cf, hb'.at 1 rfl, hF, hm⟩
theorem St.two {n₀ Bt n : Nat} {tm : Int} {fs : List Fd} {af : Option Addr} {cf : Nat} {w1 W : World} {vv : Value} {vs : List Vl} (hl : fs.length = n) (hm : n ≤ maxLen) (h : St n₀ Bt n tm fs af cf w1 W vv vs) : ∃ av cv, vv = .slice av vs.length cv ∧ St2 n₀ Bt tm fs w1 W av cv vs := by
  have hT := h.typs hl hm
  obtain ⟨he, hv, _, _, hs, _, hB⟩ := h
  obtain ⟨av, cv, rfl, hV, _⟩ := vals_of_owns hv
  exact ⟨av, cv, rfl, he, hV, hT, hs, hB⟩
theorem St.drew {n₀ Bt n : Nat} {tm : Int} {fs : List Fd} {af : Option Addr} {cf : Nat} {w1 W : World} {vv : Value} {vs : List Vl} (h : St n₀ Bt n tm fs af cf w1 W vv vs) : St n₀ Bt n tm fs af cf w1 W.drew vv vs := by
  obtain ⟨he, hv, hf, hb, hs, hlt, hB⟩ := h
  exact ⟨he, hv, hf, hb, hs, hlt, hB.drew⟩
theorem St.store {n₀ Bt n : Nat} {tm : Int} {fs : List Fd} {af : Option Addr} {cf : Nat} {w1 W : World} {g c : Nat} {vs : List Vl} (h : St n₀ Bt n tm fs af cf w1 W (.slice (some ⟨g, 0, none⟩) vs.length c) vs) (j : Nat) (hj : j < vs.length) (x : Vl) :
    St n₀ Bt n tm fs af cf w1 (((W.setCell ⟨g, j * 3, none⟩ (.int .i64 x.1)).setCell ⟨g, j * 3 + 1, none⟩ (.int .i64 x.2.1)).setCell ⟨g, j * 3 + 2, none⟩ (.string x.2.2.1)) (.slice (some ⟨g, 0, none⟩) (vs.set j x).length c) (vs.set j x) := by
  obtain ⟨he, hv, hf, hb, hs, hlt, hB⟩ := h
  have n1 : g ≠ n₀ + 1 := fun e => owns_ne_box hv he (by decide) (by simp [Value.ownBlock, e])
  have n2 : g ≠ Bt := fun e => owns_ne_box hv hb (by decide) (by simp [Value.ownBlock, e])
  have n3 : g ≠ Bt + 1 := fun e => owns_ne_box hv hs (by decide) (by simp [Value.ownBlock, e])
  have hg : n₀ + 2 ≤ g := (owns_lt hv (g := g) rfl).1
  rw [List.length_set]
  refine ⟨((he.other _ _ n1).other _ _ n1).other _ _ n1, ?_, ?_, ((hb.other _ _ n2).other _ _ n2).other _ _ n2, ((hs.other _ _ n3).other _ _ n3).other _ _ n3, hlt, ?_⟩
  · rw [List.length_set]; exact owns_store hv j hj x
  · refine owns_keep hf fun k hk _ => ?_
    have hne : g ≠ k := by
      intro e
      obtain ⟨_, cu, hcu⟩ := owns_lt hf hk
      obtain ⟨_, cw, hcw⟩ := owns_lt hv (g := g) rfl
      rw [e, hcu] at hcw
      simp at hcw
    exact ((setCell_block _ _ _ hne).trans (setCell_block _ _ _ hne)).trans (setCell_block _ _ _ hne)
  · exact ((hB.setCell (p := ⟨g, j * 3, none⟩) (by simp only; omega) _).setCell (p := ⟨g, j * 3 + 1, none⟩) (by simp only; omega) _).setCell (p := ⟨g, j * 3 + 2, none⟩) (by simp only; omega) _
theorem St.app {n₀ Bt n : Nat} {tm : Int} {fs : List Fd} {af : Option Addr} {cf : Nat} {w1 W Wa w2 : World} {vv v2 : Value} {vs : List Vl} (h : St n₀ Bt n tm fs af cf w1 W vv vs) (x : Vl) (ha : Below W.heap.size W Wa) (hg : Wa.grownBy w2 vv.ownBlock)
    (ho : w2.ownsRow (n₀ + 2) 33 3 v2 (vs.length + 1) (newsV vs ++ [.int .i64 x.1, .int .i64 x.2.1, .string x.2.2.1])) : Box w2 (n₀ + 1) 29 #[.string ⟨#[116]⟩, .int .i64 tm, vv] ∧ St n₀ Bt n tm fs af cf w1 (w2.setCell ⟨n₀ + 1, 2, none⟩ v2) v2 (vs ++ [x]) := by
  obtain ⟨he, hv, hf, hb, hs, hlt, hB⟩ := h
  have h1 := grown_box ha hg he (owns_ne_box hv he (by decide))
  have h2 := grown_box ha hg hb (owns_ne_box hv hb (by decide))
  have h3 := grown_box ha hg hs (owns_ne_box hv hs (by decide))
  have h4 := grown_owns ha hv hg hf (by decide)
  refine ⟨h1, h1.set 2 v2, ?_, owns_set h4 _ _ (by simp only; omega), h2.other _ _ (by simp only; omega), h3.other _ _ (by simp only; omega), hlt, ?_⟩
  · rw [List.length_append, List.length_singleton, newsV_append, show newsV [x] = [.int .i64 x.1, .int .i64 x.2.1, .string x.2.2.1] by simp [newsV]]
    exact owns_set ho _ _ (by simp only; omega)
  · have hn : n₀ ≤ W.heap.size := by have := he.lt; omega
    have b1 := hB.trans (ha.mono hn)
    exact (b1.grown hg (Nat.le_trans hn ha.size) (fun g e => by have := (owns_lt hv e).1; omega)).setCell (p := ⟨n₀ + 1, 2, none⟩) (by simp only; omega) _

/-- The slice at a has these bytes, below n₀. -/
def Byts (n₀ : Nat) (W : World) (a : Option Addr) (n : Nat) (bs : Nat → Nat) : Prop :=
  n = 0 ∨ ∃ b off, a = some ⟨b, off, none⟩ ∧ b < n₀ ∧ ∀ j, j < n → W.cell? ⟨b, off + j, none⟩ = some (.int .u8 (bs j))

set_option maxRecDepth 100000 in
set_option maxHeartbeats 8000000 in
theorem kinds_near (a : Option Addr) (n cap : Nat) (bs : Nat → Nat) (hbs : ∀ j, bs j < 256) (wq mo : Nat) (hwq : wq < 256) (hmo : mo < 256) (tm : Int) (h5 : n ≤ 5) (w : World) (hA : Byts w.heap.size w a n bs) :
    Calls Try.prog 3 #[.slice a n cap, .int .u8 wq, .int .u8 mo, .int .i64 tm] w fun e w' => e = .returned (.bool true) ∧ Below w.heap.size w w' := by
  go_enter Try.func3, Try.ntmps3
  go_wp2_with fail
  refine (known_c _).mono ?_
  rintro e w1 ⟨rfl, hb1⟩
  have inv0 : InvK w1.heap.size tm bs w1 ((w1.alloc (.cells #[.string ⟨#[116]⟩, .slice none 0 0] 26)).alloc (.cells #[.string ⟨#[116]⟩, .int .i64 tm, .slice none 0 0] 29)) 0 := by
    refine ⟨.slice none 0 0, .slice none 0 0, (Box.new w1 26 _).alloc _, ?_, World.ownsRow_nil _ _ _ _, World.ownsRow_nil _ _ _ _, ((Below.refl _ _).alloc (Nat.le_refl _) _).alloc (by simp) _⟩
    have := Box.new (w1.alloc (.cells #[.string ⟨#[116]⟩, .slice none 0 0] 26)) 29 #[.string ⟨#[116]⟩, .int .i64 tm, .slice none 0 0]
    rwa [World.size_alloc] at this
  replace inv0 := hide inv0
  go_wp2_with fail
  go_loopw [11] (fun iv wx => ∃ i : Nat, i ≤ n ∧ iv = .int .i64 i ∧ Hid (InvK w1.heap.size tm bs w1 wx i)) (fun i _ => n - (intOf i).toNat)
  case atStart => exact ⟨0, Nat.zero_le _, rfl, inv0⟩
  case round =>
    obtain ⟨i, hi, rfl, hinv⟩ := hrel
    clear inv0
    obtain ⟨vf, vv, hbf, hbe, hrf, hrv, hB⟩ := unhide hinv
    clear hinv
    have bw := hb1.trans (hB.mono hb1.size)
    by_cases hlt : i < n
    · have hcell : ∃ b off, a = some ⟨b, off, none⟩ ∧ wr.cell? ⟨b, off + i, none⟩ = some (.int .u8 (bs i)) := by
        rcases hA with rfl | ⟨b, off, rfl, hb, hc⟩
        · omega
        · exact ⟨b, off, rfl, (bw.cell (p := ⟨b, off + i, none⟩) hb).trans (hc i hlt)⟩
      obtain ⟨b, off, rfl, hc⟩ := hcell
      have hb3 := hbs i
      have hf1 := hbf.two.2
      have he2 := hbe.three.2.2
      have hcv := conv1 wr (97 + i)
      replace hrf := hide hrf
      replace hrv := hide hrv
      obtain ⟨i1, hi1, hz10, hz11, hz12⟩ := info_parts infoFd
      obtain ⟨i2, hi2, hz20, hz21, hz22⟩ := info_parts infoVl
      go_upto_region 11 with fail
      rw [show ((bs i : Int) % 3 + 1) = kdOf bs i by unfold kdOf; omega]
      go_upto_region 12 with (at_builtin; refine wpList_append_own _ rfl _ _ 24 rfl (w1.heap.size + 2) 31 i1 (.agg #[.string ⟨#[]⟩, .int .i64 0]) 2 24 Try.underlying24 hi1 hz10 hz11 hz12 rfl (by decide) vf i (newsF (fsOf bs i)) rfl (((unhide hrf).alloc _).alloc _) ⟨wr.heap.size + 1, 0, none⟩ 1 1 [_, _] rfl rfl (cells_two' _ _ _ _ _) (by simp [Value.oneCell']) (by unfold maxLen; omega) (by omega) (by have := hbe.lt; simp; omega) ?_; intro v2 w2 hown hgrow _; obtain ⟨g2, c2, rfl⟩ := ownsRow_succ hown; have hbf2 := grown_box (((Below.refl _ wr).alloc (Nat.le_refl _) _).alloc (by simp) _) hgrow hbf (owns_ne_box (unhide hrf) hbf (by decide)); have hd1 := hbf2.two.2; have hd2 := hbf2.frz 1; have HO := hide hown; have HG := hide hgrow; clear hown hgrow hbf2)
      obtain ⟨_, xf, xe, yf, yv, yB⟩ := step_f hbf hbe (unhide hrf) (unhide hrv) hB (((Below.refl _ wr).alloc (Nat.le_refl _) _).alloc (by simp) _) (unhide HG) (by rw [← str_1]; exact unhide HO)
      obtain ⟨w3, hw3⟩ : ∃ w3, w3 = w2.setCell ⟨w1.heap.size, 1, none⟩ (.slice (some ⟨g2, 0, none⟩) (i + 1) c2) := ⟨_, rfl⟩
      rw [← hw3] at xf xe yf yv yB ⊢
      clear hw3 HO HG hd1 hd2 hrf hrv hbf hbe hf1 he2 hcv hB bw
      have he2 := xe.three.2.2
      replace yf := hide yf
      replace yv := hide yv
      go_wp2_with (at_builtin; refine wpList_append_own _ rfl _ _ 27 rfl (w1.heap.size + 2) 33 i2 (.agg #[.int .i64 0, .int .i64 0, .string ⟨#[]⟩]) 3 32 Try.underlying27 hi2 hz20 hz21 hz22 rfl (by decide) vv i (newsV (vsOf bs i)) rfl ((unhide yv).alloc _) ⟨w3.heap.size, 0, none⟩ 1 1 [_, _, _] rfl rfl (cells_three _ _ _ _ _) (by simp [Value.oneCell']) (by unfold maxLen; omega) (by omega) (by have := xe.lt; simp; omega) ?_; intro v4 w4 hown hgrow _; obtain ⟨g4, c4, rfl⟩ := ownsRow_succ hown; have hstep := step_v xf xe (unhide yf) (unhide yv) yB ((Below.refl _ w3).alloc (Nat.le_refl _) _) hgrow hown; have hd1 := hstep.1.three.2.2; have hd2 := hstep.1.frz 2; have HI := hide hstep.2; clear hown hgrow hstep)
      go_roundw
      case rel => exact ⟨i + 1, by omega, by go_num, HI⟩
      case measure => simp [intOf]; omega
    · have hie : i = n := by omega
      subst hie
      obtain ⟨af, cf, rfl⟩ := slice_of_owns hrf
      have hf0 := hbf.two.1
      have hf1 := hbf.two.2
      have hlw := hbf.lt
      have hle := hbe.lt
      have st0 : St w1.heap.size wr.heap.size i tm (fsOf bs i) af cf w1 ((wr.alloc (.cells #[.string ⟨#[116]⟩, .slice af i cf] 26)).alloc (.cells #[.slice (some ⟨wr.heap.size, 0, none⟩) 1 1] 36)) vv (vsOf bs i) := by
        have hb : Below wr.heap.size wr ((wr.alloc (.cells #[.string ⟨#[116]⟩, .slice af i cf] 26)).alloc (.cells #[.slice (some ⟨wr.heap.size, 0, none⟩) 1 1] 36)) := ((Below.refl _ _).alloc (Nat.le_refl _) _).alloc (by simp) _
        refine ⟨hbe.on hb hbe.lt, ?_, owns_below hrf hb, (Box.new wr 26 _).alloc _, ?_, by omega, hB.trans (hb.mono (by omega))⟩
        · rw [vsOf_len]; exact owns_below hrv hb
        · have := Box.new (wr.alloc (.cells #[.string ⟨#[116]⟩, .slice af i cf] 26)) 36 #[.slice (some ⟨wr.heap.size, 0, none⟩) 1 1]
          rwa [World.size_alloc] at this
      obtain ⟨Bt, hBt⟩ : ∃ Bt, Bt = wr.heap.size := ⟨_, rfl⟩
      replace st0 := hide st0
      clear hrf hrv
      go_upto_region 15 with fail
      rw [← hBt] at st0 ⊢
      obtain ⟨T, hT⟩ : ∃ T : Bool, T = (decide (0 < i) && decide (wq % 2 = 1)) := ⟨_, rfl⟩
      replace hT := hide hT
      have hW5 : (wr.alloc (.cells #[.string ⟨#[116]⟩, .slice af i cf] 26)).alloc (.cells #[.slice (some ⟨Bt, 0, none⟩) 1 1] 36) = (wr.alloc (.cells #[.string ⟨#[116]⟩, .slice af i cf] 26)).alloc (.cells #[.slice (some ⟨Bt, 0, none⟩) 1 1] 36) := rfl
      generalize (wr.alloc (.cells #[.string ⟨#[116]⟩, .slice af i cf] 26)).alloc (.cells #[.slice (some ⟨Bt, 0, none⟩) 1 1] 36) = w5 at st0 hW5 ⊢
      clear hW5 hBt hf0 hf1 hlw hle hbf hbe hB
      go_cut [67] (fun g wx => g = .bool T ∧ wx = w5)
      case first =>
        by_cases h0 : 0 < i
        · by_cases h1 : wq % 2 = 1
          · have h1' : ((wq : Int) % 2 == 1) = true := by rw [beq_iff_eq]; omega
            have e := hide (show T = true by rw [unhide hT]; simp [h0, h1])
            clear h1
            go_wp2_with fail
            go_meet
            case rel => exact ⟨by rw [unhide e], rfl⟩
          · have h1' : ((wq : Int) % 2 == 1) = false := by rw [beq_eq_false_iff_ne]; omega
            have e := hide (show T = false by rw [unhide hT]; simp [h1])
            clear h1
            go_wp2_with fail
            go_meet
            case rel => exact ⟨by rw [unhide e], rfl⟩
        · have h0' : i = 0 := by omega
          have e := hide (show T = false by rw [unhide hT]; simp [h0])
          subst h0'
          go_wp2_with fail
          go_meet
          case rel => exact ⟨by rw [unhide e], rfl⟩
      case rest =>
        obtain ⟨rfl, rfl⟩ := hcut
        go_upto_if 67 with fail
        go_cut [14] (fun g wx => ∃ (v2 : Value) (vs : List Vl) (c : Int), g = errE c ∧ Hid (St w1.heap.size Bt i tm (fsOf bs i) af cf w1 wx v2 vs ∧ vs.length = i ∧ (c = 0 ∨ c = 14) ∧ (0 ≤ tm ∧ tm ≤ 1073741824 → isE (tsT (fsOf bs i)) ⟨t1 116, tm, vs⟩ = c)))
        case first =>
          cases T
          · go_wp2_with fail
            go_meet
            case rel => exact ⟨vv, vsOf bs i, 0, rfl, hide ⟨unhide st0, vsOf_len bs i, .inl rfl, is_as bs i tm⟩⟩
          · have hi0 : 0 < i := by
              have := (unhide hT).symm
              rw [Bool.and_eq_true, decide_eq_true_eq] at this
              exact this.1
            obtain ⟨xe, xv, _⟩ := unhide st0
            rw [vsOf_len] at xv
            obtain ⟨a0, c0, rfl⟩ := slice_of_owns xv
            obtain ⟨g, rfl, _, _, _, _, hcell, hfz⟩ := owns_cells xv hi0
            have hz : ((i : Int) == 0) = false := by rw [beq_eq_false_iff_ne]; omega
            have he2 := xe.three.2.2
            replace hcell := hide hcell
            replace hfz := hide hfz
            clear xv xe
            go_upto_region 17 with fail
            obtain ⟨j, hj, hjl⟩ : ∃ j : Nat, ((wq : Int) / 2 % (i : Int)) = (j : Int) ∧ j < i := ⟨wq / 2 % i, by simp, Nat.mod_lt _ hi0⟩
            rw [hj]
            clear hj
            have hat := newsV_at (vsOf bs i) j (by rw [vsOf_len]; exact hjl)
            rw [vl_vsOf bs hjl] at hat
            have p0 : wc.cell? ⟨g, j * 3, none⟩ = some (.int .i64 (kdOf bs j)) := (unhide hcell _ (by omega)).trans hat.1
            have p1 : wc.cell? ⟨g, j * 3 + 1, none⟩ = some (.int .i64 0) := (unhide hcell _ (by omega)).trans hat.2.1
            have p2 : wc.cell? ⟨g, j * 3 + 2, none⟩ = some (.string ⟨#[]⟩) := (unhide hcell _ (by omega)).trans hat.2.2
            have q0 := unhide hfz (j * 3)
            have q1 := unhide hfz (j * 3 + 1)
            have q2 := unhide hfz (j * 3 + 2)
            have hk := kdOf_in bs j
            obtain ⟨K, hK⟩ : ∃ K, K = kdOf bs j := ⟨_, rfl⟩
            rw [← hK] at p0 hk
            have hk1 : 1 ≤ K := by omega
            have hk3 : K ≤ 3 := by omega
            have hjz : (0 : Int) ≤ (j : Int) := by omega
            have hji : (j : Int) < (i : Int) := by omega
            have hw1 : IntKind.i64.wrap (j : Int) = j := by rw [IntKind.wrap_i64]; omega
            have hw2 : IntKind.i64.wrap (K % 3 + 1) = K % 3 + 1 := by rw [IntKind.wrap_i64]; omega
            replace hK := hide hK
            clear hk hat hcell hfz hT
            have st1 : Hid (St w1.heap.size Bt i tm (fsOf bs i) af cf w1 (((wc.setCell ⟨g, j * 3, none⟩ (.int .i64 (K % 3 + 1))).setCell ⟨g, j * 3 + 1, none⟩ (.int .i64 0)).setCell ⟨g, j * 3 + 2, none⟩ (.string ⟨#[]⟩)) (.slice (some ⟨g, 0, none⟩) ((vsOf bs i).set j (K % 3 + 1, 0, t0)).length c0) ((vsOf bs i).set j (K % 3 + 1, 0, t0))) := by
              have h := unhide st0
              rw [show (Value.slice (some ⟨g, 0, none⟩) i c0) = .slice (some ⟨g, 0, none⟩) (vsOf bs i).length c0 by rw [vsOf_len]] at h
              exact hide (h.store j (by rw [vsOf_len]; exact hjl) (K % 3 + 1, 0, t0))
            go_wp2_with fail
            go_region
            all_goals
              go_wp2_with fail
              go_meet
              case rel =>
                refine ⟨_, (vsOf bs i).set j (K % 3 + 1, 0, t0), 14, rfl, hide ⟨(unhide st1).drew, by rw [List.length_set, vsOf_len], .inr rfl, fun h => ?_⟩⟩
                rw [unhide hK]
                exact is_set bs i j tm h hjl
        case rest =>
          obtain ⟨v2, vs, c, rfl, hst⟩ := hcut
          clear st0 hT
          obtain ⟨st1, hvl, hc0, hcE⟩ := unhide hst
          clear hst
          have hfl := fsOf_len bs i
          have hmx : i ≤ maxLen := by unfold maxLen; omega
          replace hfl := hide hfl
          replace hmx := hide hmx
          replace hvl := hide hvl
          replace hc0 := hide hc0
          go_upto_if 90 with fail
          go_cut [14] (fun g wx => ∃ (av : Option Addr) (cv : Nat) (vs3 : List Vl) (c3 : Int), g = errE c3 ∧ Hid (St2 w1.heap.size Bt tm (fsOf bs i) w1 wx av cv vs3 ∧ vs3.length ≤ 20 ∧ (c3 = 0 ∨ c3 = 10 ∨ c3 = 14) ∧ (0 ≤ tm ∧ tm ≤ 1073741824 → isE (tsT (fsOf bs i)) ⟨t1 116, tm, vs3⟩ = c3)))
          case first =>
            obtain ⟨av, cv, rfl, st2⟩ := st1.two (unhide hfl) (unhide hmx)
            have he2 := st1.1.three.2.2
            have hbl := st1.1.lt
            by_cases h1 : mo % 3 = 1
            · have h1' : ((mo : Int) % 3 == 1) = true := by rw [beq_iff_eq]; omega
              obtain ⟨i2, hi2, hz20, hz21, hz22⟩ := info_parts infoVl
              have hown0 := hide st1.2.1
              have hln : vs.length + 1 ≤ 6 := by have := unhide hvl; omega
              replace st1 := hide st1
              replace st2 := hide st2
              replace hcE := hide hcE
              go_wp2_with (at_builtin; refine wpList_append_own _ rfl _ _ 27 rfl (w1.heap.size + 2) 33 i2 (.agg #[.int .i64 0, .int .i64 0, .string ⟨#[]⟩]) 3 32 Try.underlying27 hi2 hz20 hz21 hz22 rfl (by decide) (.slice av vs.length cv) vs.length (newsV vs) rfl ((unhide hown0).alloc _) ⟨wc.heap.size, 0, none⟩ 1 1 [_, _, _] rfl rfl (cells_three _ _ _ _ _) (by simp [Value.oneCell']) (by unfold maxLen; omega) (by omega) (by simp; omega) ?_; intro v4 w4 hown hgrow _; obtain ⟨g4, c4, rfl⟩ := ownsRow_succ hown; have hstep := (unhide st1).app (1, 0, t0) ((Below.refl _ wc).alloc (Nat.le_refl _) _) hgrow hown; have hd1 := hstep.1.three.2.2; have hd2 := hstep.1.frz 2; have HI := hide hstep.2; clear hown hgrow hstep)
              go_meet
              case rel =>
                obtain ⟨av', cv', e, st3⟩ := (unhide HI).two (unhide hfl) (unhide hmx)
                have hlen : (vs ++ [((1 : Int), (0 : Int), t0)]).length = vs.length + 1 := by simp
                refine ⟨av', cv', vs ++ [(1, 0, t0)], 10, rfl, hide ⟨st3, by rw [hlen]; omega, .inr (.inl rfl), fun _ => is_out _ _ _ (.inr (.inr ?_))⟩⟩
                have := unhide hfl
                have := unhide hvl
                rw [hlen]; omega
            · have h1' : ((mo : Int) % 3 == 1) = false := by rw [beq_eq_false_iff_ne]; omega
              by_cases h2 : mo % 3 = 2 ∧ 0 < vs.length
              · obtain ⟨h2, hv0⟩ := h2
                have h2' : ((mo : Int) % 3 == 2) = true := by rw [beq_iff_eq]; omega
                obtain ⟨m, hm⟩ : ∃ m, vs.length = m + 1 := ⟨vs.length - 1, by omega⟩
                obtain ⟨g, rfl, _, _, hcap, _⟩ := owns_cells st1.2.1 hv0
                have hf2 := st1.1.frz 2
                have e1 : ((m + 1 : Nat) : Int) - 1 = (m : Int) := by omega
                have e2 : IntKind.i64.wrap (m : Int) = (m : Int) := by have := unhide hvl; rw [IntKind.wrap_i64]; omega
                have e3 : (m : Int) ≤ (cv : Int) := by omega
                have e4 : (0 : Int) ≤ (m : Int) := by omega
                have e5 : (0 : Int) < ((m + 1 : Nat) : Int) := by omega
                have hless := st1.less (unhide hfl) (unhide hmx) m (by omega)
                replace hless := hide hless
                have hvl' := hide (show (vs.take m).length = m by simp; omega)
                replace st1 := hide st1
                replace st2 := hide st2
                replace hcE := hide hcE
                rw [hm] at he2
                replace hm := hide hm
                clear h1 h2 hv0
                go_wp2_with fail
                go_meet
                case rel =>
                  refine ⟨_, _, vs.take m, 10, rfl, hide ⟨unhide hless, ?_, .inr (.inl rfl), fun _ => is_out _ _ _ (.inr (.inr ?_))⟩⟩
                  · have := unhide hm; have := unhide hvl; rw [unhide hvl']; omega
                  · have := unhide hm; have := unhide hvl; rw [unhide hvl', unhide hfl]; omega
              · have hcase : (mo % 3 ≠ 2) ∨ (mo % 3 = 2 ∧ vs.length = 0) := by omega
                have hlen : vs.length ≤ 20 := by have := unhide hvl; omega
                clear h2
                rcases hcase with h2 | ⟨h2, h0⟩
                · have h2' : ((mo : Int) % 3 == 2) = false := by rw [beq_eq_false_iff_ne]; omega
                  replace st1 := hide st1
                  replace st2 := hide st2
                  replace hcE := hide hcE
                  clear h1 h2
                  go_wp2_with fail
                  go_meet
                  case rel => exact ⟨av, cv, vs, c, rfl, hide ⟨unhide st2, hlen, (unhide hc0).elim .inl (fun h => .inr (.inr h)), unhide hcE⟩⟩
                · have h2' : ((mo : Int) % 3 == 2) = true := by rw [beq_iff_eq]; omega
                  replace st1 := hide st1
                  replace st2 := hide st2
                  replace hcE := hide hcE
                  rw [h0] at he2
                  replace h0 := hide h0
                  clear h1 h2
                  go_wp2_with fail
                  go_meet
                  case rel => exact ⟨av, cv, vs, c, rfl, hide ⟨unhide st2, hlen, (unhide hc0).elim .inl (fun h => .inr (.inr h)), unhide hcE⟩⟩
          case rest =>
            obtain ⟨av, cv, vs3, c3, rfl, hst⟩ := hcut
            clear st1 hcE hvl hc0
            obtain ⟨⟨xe, xv, xt, xs, xB⟩, hl3, hc3, hcE⟩ := unhide hst
            clear hst
            obtain ⟨he0, he1, he2⟩ := xe.three
            have hs0 := xs.one.1
            have hk5 : ∀ k, (ty (tsT (fsOf bs i)) k).2.length ≤ 5 := fun k => by
              match k with
              | 0 => simp [ty, tsT, fsOf_len, h5]
              | k + 1 => simp [ty, tsT, show (default : Ty).2 = [] from rfl]
            have call := is_c (some ⟨Bt, 0, none⟩) av 1 cv (tsT (fsOf bs i)) ⟨t1 116, tm, vs3⟩ (by simp [tsT]) hk5 hl3 wc xt xv
            have bw3 := hb1.trans (xB.mono hb1.size)
            by_cases hin : 0 ≤ tm ∧ tm ≤ 1073741824
            · obtain ⟨t0', t1'⟩ := hin
              rw [hcE ⟨t0', t1'⟩] at call
              replace call := hide call
              have hn0 : ¬ tm < 0 := by omega
              have hn1 : ¬ 1073741824 < tm := by omega
              clear hcE xe xs xt xv
              rcases hc3 with rfl | rfl | rfl
              · simp only [show errE 0 = .nilIface from rfl]
                go_wp2_with fail
                refine (unhide call).mono ?_
                rintro e w7 ⟨rfl, hb7⟩
                simp only [show errE 0 = .nilIface from rfl]
                go_wp2_with fail
                go_ret
                exact ⟨rfl, bw3.trans (hb7.mono bw3.size)⟩
              · simp only [show errE 10 = errV 10 from rfl]
                go_wp2_with fail
                refine (unhide call).mono ?_
                rintro e w7 ⟨rfl, hb7⟩
                simp only [show errE 10 = errV 10 from rfl]
                go_wp2_with fail
                refine (errIs_c 10 10 _).mono ?_
                rintro e w8 ⟨rfl, rfl⟩
                go_wp2_with fail
                go_ret
                exact ⟨rfl, bw3.trans (hb7.mono bw3.size)⟩
              · simp only [show errE 14 = errV 14 from rfl]
                go_wp2_with fail
                refine (unhide call).mono ?_
                rintro e w7 ⟨rfl, hb7⟩
                simp only [show errE 14 = errV 14 from rfl]
                go_wp2_with fail
                refine (errIs_c 14 14 _).mono ?_
                rintro e w8 ⟨rfl, rfl⟩
                go_wp2_with fail
                go_ret
                exact ⟨rfl, bw3.trans (hb7.mono bw3.size)⟩
            · have hout : tm < 0 ∨ (¬ tm < 0 ∧ 1073741824 < tm) := by omega
              rw [is_out (fsOf bs i) tm vs3 (by omega)] at call
              replace call := hide call
              clear hcE xe xs xt xv hin hc3
              rcases hout with h | ⟨h, h'⟩
              all_goals
                go_wp2_with fail
                refine (unhide call).mono ?_
                rintro e w7 ⟨rfl, hb7⟩
                simp only [show errE 10 = errV 10 from rfl]
                go_wp2_with fail
                refine (errIs_c 10 10 _).mono ?_
                rintro e w8 ⟨rfl, rfl⟩
                go_wp2_with fail
                go_ret
                exact ⟨rfl, bw3.trans (hb7.mono bw3.size)⟩

set_option maxHeartbeats 2000000 in
theorem kinds_far (a : Option Addr) (n cap : Nat) (wq mo : Nat) (tm : Int) (h5 : 5 < n) (hm : n ≤ maxLen) (w : World) :
    Calls Try.prog 3 #[.slice a n cap, .int .u8 wq, .int .u8 mo, .int .i64 tm] w fun e w' => e = .returned (.bool true) ∧ Below w.heap.size w w' := by
  unfold maxLen at hm
  go_enter Try.func3, Try.ntmps3
  go_wp2_with fail
  refine (known_c _).mono ?_
  rintro e w1 ⟨rfl, hb1⟩
  go_wp2_with fail
  go_ret
  exact ⟨rfl, hb1⟩

end Go.Proofs.Ythifciikmdnhaaa
