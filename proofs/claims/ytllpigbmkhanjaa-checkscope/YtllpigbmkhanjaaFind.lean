/-
  What slices.Clone makes of a row of fields, and what Find answers: for every schema and name, in whatever world; nothing that lay is turned.
-/
import Derived.Test.YtllpigbmkhanjaaPlace
import Derived.Lib.SliceRun
namespace Go.Proofs.Ytllpigbmkhanjaa
open Go.RowKit Go.Shelf

/-- A field: its name, its kind. -/
abbrev Fd := Txt × Int

abbrev fd (fs : List Fd) (j : Nat) : Fd := fs[j]?.getD default

/-- The slice at a has these fields, below n₀. -/
def Flds (n₀ : Nat) (W : World) (a : Option Addr) (fs : List Fd) : Prop :=
  fs = [] ∨ ∃ b off, a = some ⟨b, off, none⟩ ∧ b < n₀ ∧ ∀ j, j < fs.length → W.cell? ⟨b, off + j * 2, none⟩ = some (.string (fd fs j).1.1) ∧ W.cell? ⟨b, off + j * 2 + 1, none⟩ = some (.int .i64 (fd fs j).2)

theorem Flds.below {n₀ : Nat} {A B : World} (h : Below n₀ A B) {a : Option Addr} {fs : List Fd} : Flds n₀ A a fs → Flds n₀ B a fs
  | .inl e => .inl e
  | .inr ⟨b, off, e, hb, hc⟩ => .inr ⟨b, off, e, hb, fun j hj => ⟨(h.cell (p := ⟨b, off + j * 2, none⟩) hb).trans (hc j hj).1, (h.cell (p := ⟨b, off + j * 2 + 1, none⟩) hb).trans (hc j hj).2⟩⟩

theorem Flds.mono {n₀ n₁ : Nat} (hn : n₀ ≤ n₁) {A : World} {a : Option Addr} {fs : List Fd} : Flds n₀ A a fs → Flds n₁ A a fs
  | .inl e => .inl e
  | .inr ⟨b, off, e, hb, hc⟩ => .inr ⟨b, off, e, Nat.lt_of_lt_of_le hb hn, hc⟩

theorem Flds.on {A B : World} {a : Option Addr} {fs : List Fd} (h : Flds A.heap.size A a fs) (hb : Below A.heap.size A B) : Flds B.heap.size B a fs := (h.below hb).mono hb.size

/-- A type: its name, its fields. -/
abbrev Ty := Txt × List Fd

abbrev ty (ts : List Ty) (j : Nat) : Ty := ts[j]?.getD default

/-- The slice at a has these types, below n₀. -/
def Typs (n₀ : Nat) (W : World) (a : Option Addr) (ts : List Ty) : Prop :=
  ts = [] ∨ ∃ b off, a = some ⟨b, off, none⟩ ∧ b < n₀ ∧ ∀ j, j < ts.length → W.cell? ⟨b, off + j * 2, none⟩ = some (.string (ty ts j).1.1) ∧
    ∃ a' c', W.cell? ⟨b, off + j * 2 + 1, none⟩ = some (.slice a' (ty ts j).2.length c') ∧ Flds n₀ W a' (ty ts j).2 ∧ (ty ts j).2.length ≤ maxLen

theorem Typs.below {n₀ : Nat} {A B : World} (h : Below n₀ A B) {a : Option Addr} {ts : List Ty} : Typs n₀ A a ts → Typs n₀ B a ts
  | .inl e => .inl e
  | .inr ⟨b, off, e, hb, hc⟩ => .inr ⟨b, off, e, hb, fun j hj => by
      obtain ⟨h1, a', c', h2, h3, h4⟩ := hc j hj
      exact ⟨(h.cell (p := ⟨b, off + j * 2, none⟩) hb).trans h1, a', c', (h.cell (p := ⟨b, off + j * 2 + 1, none⟩) hb).trans h2, h3.below h, h4⟩⟩

theorem Typs.mono {n₀ n₁ : Nat} (hn : n₀ ≤ n₁) {A : World} {a : Option Addr} {ts : List Ty} : Typs n₀ A a ts → Typs n₁ A a ts
  | .inl e => .inl e
  | .inr ⟨b, off, e, hb, hc⟩ => .inr ⟨b, off, e, Nat.lt_of_lt_of_le hb hn, fun j hj => by
      obtain ⟨h1, a', c', h2, h3, h4⟩ := hc j hj
      exact ⟨h1, a', c', h2, h3.mono hn, h4⟩⟩

theorem Typs.on {A B : World} {a : Option Addr} {ts : List Ty} (h : Typs A.heap.size A a ts) (hb : Below A.heap.size A B) : Typs B.heap.size B a ts := (h.below hb).mono hb.size

def tnames (ts : List Ty) : List Txt := ts.map fun f => f.1

theorem tnames_len (ts : List Ty) : (tnames ts).length = ts.length := by simp [tnames]

theorem Typs.names {n₀ : Nat} {W : World} {a : Option Addr} {ts : List Ty} : Typs n₀ W a ts → TNames n₀ W a (tnames ts)
  | .inl e => .inl (by rw [e]; rfl)
  | .inr ⟨b, off, e, hb, hc⟩ => .inr ⟨b, off, e, hb, fun j hj => by
      rw [tnames_len] at hj
      obtain ⟨h1, a', c', h2, _⟩ := hc j hj
      refine ⟨h1.trans ?_, _, _, _, h2⟩
      simp [ty, tx, tnames, hj]⟩

theorem types_t (a : Option Addr) (cap : Nat) (ts : List Ty) (h5 : ts.length ≤ 5) (w : World) (hT : Typs w.heap.size w a ts) :
    Calls Try.prog 55 #[.slice a ts.length cap] w fun e w' => ∃ Bs, e = .returned (.func (.func 63) #[] #[.pointer (some ⟨Bs, 0, none⟩)]) ∧ Gives w' 63 Bs (tnames ts) ∧ Below w.heap.size w w' := by
  have h := types_g a cap (tnames ts) (by rw [tnames_len]; exact h5) w hT.names
  rw [tnames_len] at h
  exact h

theorem infoFd : (Try.prog.info? 60).map (fun i => (i.zero, i.size, i.bytes)) = some (some (.agg #[.string ⟨#[]⟩, .int .i64 0]), 2, 24) := by kernel_rfl

/-- The cells of a row of fields. -/
def newsF (fs : List Fd) : List Value := fs.flatMap fun f => [.string f.1.1, .int .i64 f.2]

theorem newsF_len (fs : List Fd) : (newsF fs).length = fs.length * 2 := by
  induction fs with
  | nil => rfl
  | cons f fs ih => simp only [newsF, List.flatMap_cons, List.length_append, List.length_cons, List.length_nil] at ih ⊢; omega

theorem newsF_at (fs : List Fd) : ∀ j, j < fs.length → (newsF fs)[j * 2]? = some (.string (fd fs j).1.1) ∧ (newsF fs)[j * 2 + 1]? = some (.int .i64 (fd fs j).2) := by
  induction fs with
  | nil => intro j hj; simp at hj
  | cons f fs ih =>
    intro j hj
    cases j with
    | zero => simp [newsF, fd]
    | succ j =>
      have := ih j (by simpa using hj)
      have e : newsF (f :: fs) = .string f.1.1 :: .int .i64 f.2 :: newsF fs := by simp [newsF]
      rw [e, show (j + 1) * 2 = j * 2 + 1 + 1 by omega]
      simpa [fd] using this

theorem newsF_one (fs : List Fd) : ∀ u ∈ newsF fs, u.oneCell' = true := by
  intro u hu
  simp only [newsF, List.mem_flatMap] at hu
  obtain ⟨f, _, hf⟩ := hu
  simp at hf
  rcases hf with rfl | rfl <;> simp [Value.oneCell']

theorem flds_of_owns {W : World} {base : Nat} {v : Value} {fs : List Fd} (h : W.ownsRow base 60 2 v fs.length (newsF fs)) : ∃ a c, v = .slice a fs.length c ∧ Flds W.heap.size W a fs ∧ ∀ ad, a = some ad → base ≤ ad.block := by
  rcases h.2 with ⟨rfl, h0⟩ | ⟨g, cap, cur, rfl, hbase, hg, _, _, _, htake⟩
  · rw [h0]; exact ⟨_, _, rfl, .inl (List.length_eq_zero_iff.1 h0), fun _ e => by cases e⟩
  · refine ⟨_, _, rfl, .inr ⟨g, 0, rfl, (Array.getElem?_eq_some_iff.1 hg).1, fun j hj => ?_⟩, fun _ e => by cases e; exact hbase⟩
    have e2 : ∀ i, i < fs.length * 2 → (cur.toList.take (fs.length * 2))[i]? = cur[i]? := fun i hi => by rw [List.getElem?_take, if_pos hi, Array.getElem?_toList]
    rw [htake] at e2
    simp only [Nat.zero_add, World.cell?, hg]
    have h1 := e2 (j * 2) (by omega)
    have h2 := e2 (j * 2 + 1) (by omega)
    rw [(newsF_at fs j hj).1] at h1
    rw [(newsF_at fs j hj).2] at h2
    simp [← h1, ← h2]

theorem newsF_cells {W : World} {b off : Nat} {fs : List Fd} (hc : ∀ j, j < fs.length → W.cell? ⟨b, off + j * 2, none⟩ = some (.string (fd fs j).1.1) ∧ W.cell? ⟨b, off + j * 2 + 1, none⟩ = some (.int .i64 (fd fs j).2)) :
    ∀ j u, (newsF fs)[j]? = some u → W.cell? ((⟨b, off, none⟩ : Addr).add j) = some u := by
  intro j u hu
  have hj : j < fs.length * 2 := by
    have := (List.getElem?_eq_some_iff.1 hu).1
    rwa [newsF_len] at this
  rw [WideShapes.add_plain]
  rcases Nat.mod_two_eq_zero_or_one j with h | h
  · have e : j = j / 2 * 2 := by omega
    have hk : j / 2 < fs.length := by omega
    rw [e] at hu ⊢
    rw [(newsF_at fs _ hk).1] at hu
    rw [← hu]
    exact (hc _ hk).1
  · have e : j = j / 2 * 2 + 1 := by omega
    have hk : j / 2 < fs.length := by omega
    rw [e] at hu ⊢
    rw [(newsF_at fs _ hk).2] at hu
    rw [← hu, ← Nat.add_assoc]
    exact (hc _ hk).2

set_option maxRecDepth 100000 in
set_option maxHeartbeats 1000000 in
theorem cloneF_c (a : Option Addr) (cap : Nat) (fs : List Fd) (h5 : fs.length ≤ 5) (w : World) (hF : Flds w.heap.size w a fs) :
    Calls Try.prog 56 #[.slice a fs.length cap] w fun e w' => ∃ a' c', e = .returned (.slice a' fs.length c') ∧ (Flds w'.heap.size w' a' fs ∧ ∀ ad, a' = some ad → w.heap.size ≤ ad.block) ∧ Below w.heap.size w w' := by
  obtain ⟨i0, hi, hz0, hz1, hz2⟩ := info_parts infoFd
  have heq : ∀ (w : World) (n c : Nat), (binOp .eql 61 (.slice a n c) (.slice none 0 0)).run Try.prog w = .ok (.bool a.isNone) w := fun w n c => Lib.run_eql_slice_nil w 61 60 a n c 0 0 Try.underlying61
  cases a with
  | none =>
    have e0 : fs = [] := by
      rcases hF with h | ⟨b, off, e, _⟩
      · exact h
      · cases e
    subst e0
    go_enter Try.func56, Try.ntmps56
    go_wp2_with fail
    go_ret
    exact ⟨_, _, rfl, ⟨.inl rfl, fun _ e => by cases e⟩, Below.refl _ _⟩
  | some ad =>
    have b0 : Below w.heap.size w (w.alloc (.cells #[] 60)) := (Below.refl _ _).alloc (Nat.le_refl _) _
    have ho : (w.alloc (.cells #[] 60)).ownsRow w.heap.size 60 2 (.slice (some ⟨w.heap.size, 0, none⟩) 0 0) 0 [] := ⟨rfl, .inr ⟨w.heap.size, 0, #[], rfl, Nat.le_refl _, World.alloc_heap_new w _, Nat.le_refl _, Nat.zero_le _, rfl, rfl⟩⟩
    have hnews : ∀ j u, (newsF fs)[j]? = some u → (w.alloc (.cells #[] 60)).cell? (ad.add j) = some u := by
      rcases hF.below b0 with rfl | ⟨b, off, e, _, hc⟩
      · intro j u h; simp [newsF] at h
      · cases e; exact newsF_cells hc
    have hnews := hide hnews
    have hln := hide (newsF_len fs)
    have h1 := hide (newsF_one fs)
    have hF := hide hF
    go_enter Try.func56, Try.ntmps56
    go_wp2_with (at_builtin; go_must (refine wpList_append_own _ rfl _ _ 61 rfl w.heap.size 60 i0 (.agg #[.string ⟨#[]⟩, .int .i64 0]) 2 24 Try.underlying61 hi hz0 hz1 hz2 rfl (by decide) (.slice (some ⟨w.heap.size, 0, none⟩) 0 0) 0 [] rfl ho ad fs.length cap (newsF fs) rfl (unhide hln) (unhide hnews) (unhide h1) (by unfold maxLen; omega) (by omega) (by simp) ?_); intro v' w2 hown hgrow _)
    rw [Nat.zero_add] at hown
    obtain ⟨a', c', rfl, hF', hnw⟩ := flds_of_owns hown
    go_wp2_with fail
    go_ret
    exact ⟨a', c', rfl, ⟨hF', hnw⟩, b0.grown hgrow (by simp) (fun k e => by cases e; exact Nat.le_refl _)⟩

theorem placeN_lt {ns : List Txt} {nm : ByteArray} {k : Nat} (h : placeN ns nm = some k) : k < ns.length := by
  unfold placeN at h
  exact (List.findIdx?_eq_some_iff_getElem.1 h).1

theorem two_set {w : World} {b : Nat} {x y v0 v1 : Value} (h0 : w.cell? ⟨b, 0, none⟩ = some x) (h1 : w.cell? ⟨b, 1, none⟩ = some y) :
    ((w.setCell ⟨b, 0, none⟩ v0).setCell ⟨b, 1, none⟩ v1).cell? ⟨b, 0, none⟩ = some v0 ∧ ((w.setCell ⟨b, 0, none⟩ v0).setCell ⟨b, 1, none⟩ v1).cell? ⟨b, 1, none⟩ = some v1 := by
  have e : (w.setCell ⟨b, 0, none⟩ v0).cell? ⟨b, 1, none⟩ = some y := (World.cell?_setCell_other _ _ _ _ (by simp)).trans h1
  exact ⟨(World.cell?_setCell_other _ _ _ _ (by simp)).trans (World.cell?_setCell_same' _ _ _ (by rw [h0]; rfl)), World.cell?_setCell_same' _ _ _ (by rw [e]; rfl)⟩

theorem Flds.set {n : Nat} {W : World} {a : Option Addr} {fs : List Fd} (h : Flds n W a fs) (p : Addr) (v : Value) (hne : ∀ ad, a = some ad → p.block ≠ ad.block) : Flds n (W.setCell p v) a fs := by
  rcases h with h | ⟨b, off, rfl, hb, hc⟩
  · exact .inl h
  · have hp := hne _ rfl
    refine .inr ⟨b, off, rfl, hb, fun j hj => ⟨(World.cell?_setCell_other _ _ _ _ (fun e => hp (by rw [e]))).trans (hc j hj).1, (World.cell?_setCell_other _ _ _ _ (fun e => hp (by rw [e]))).trans (hc j hj).2⟩⟩

set_option maxHeartbeats 1000000 in
theorem find_none (a : Option Addr) (cap : Nat) (ts : List Ty) (nm : ByteArray) (h5 : ts.length ≤ 5) (w : World) (hT : Typs w.heap.size w a ts) (hp : placeN (tnames ts) nm = none) :
    Calls Try.prog 45 #[.agg #[.slice a ts.length cap], .string nm] w fun e w' => e = .returned (.tuple #[.agg #[.string ⟨#[]⟩, .slice none 0 0], .bool false]) ∧ Below w.heap.size w w' := by
  have b0 : Below w.heap.size w ((w.alloc (.cells #[.slice a ts.length cap] 37)).alloc (.cells #[.string ⟨#[]⟩, .slice none 0 0] 63)) := ((Below.refl _ _).alloc (Nat.le_refl _) _).alloc (by simp) _
  have s0 := hT.on b0
  have hpi : placeI (tnames ts) nm = -1 := by simp [placeI, hp]
  clear hp
  go_enter Try.func45, Try.ntmps45
  go_wp2_with fail
  refine (types_t a cap ts h5 _ s0).mono ?_
  rintro e w1 ⟨B1, rfl, hg1, hb1⟩
  go_wp2_with fail
  refine (place_c _ _ _ _ _ hg1).mono ?_
  rintro e w2 ⟨rfl, hb2⟩
  rw [hpi]
  have b2 := hb1.trans (hb2.mono hb1.size)
  have hc1 : w2.cell? ⟨w.heap.size + 1, 0, none⟩ = some (.string ⟨#[]⟩) := (b2.cell (p := ⟨w.heap.size + 1, 0, none⟩) (by simp)).trans (by simp)
  have hc2 : w2.cell? ⟨w.heap.size + 1, 1, none⟩ = some (.slice none 0 0) := (b2.cell (p := ⟨w.heap.size + 1, 1, none⟩) (by simp)).trans (by simp)
  have hf1 : w2.frozen? ⟨w.heap.size + 1, 0, none⟩ = false := (b2.frozen (p := ⟨w.heap.size + 1, 0, none⟩) (by simp)).trans (by simp)
  have hf2 : w2.frozen? ⟨w.heap.size + 1, 1, none⟩ = false := (b2.frozen (p := ⟨w.heap.size + 1, 1, none⟩) (by simp)).trans (by simp)
  go_wp2_with fail
  obtain ⟨hd1, hd2⟩ := two_set (v0 := .string ⟨#[]⟩) (v1 := .slice none 0 0) hc1 hc2
  refine bodyPost_ret (v := .tuple #[.agg #[.string ⟨#[]⟩, .slice none 0 0], .bool false]) (by simp [results, Try.results45, go_sem, hd1, hd2]) rfl ⟨rfl, ?_⟩
  have b3 := b0.trans (b2.mono b0.size)
  exact (b3.setCell (p := ⟨w.heap.size + 1, 0, none⟩) (by simp) _).setCell (p := ⟨w.heap.size + 1, 1, none⟩) (by simp) _

set_option maxHeartbeats 1000000 in
theorem find_some (a : Option Addr) (cap : Nat) (ts : List Ty) (nm : ByteArray) (k : Nat) (h5 : ts.length ≤ 5) (w : World) (hT : Typs w.heap.size w a ts) (hp : placeN (tnames ts) nm = some k) (hk5 : (ty ts k).2.length ≤ 5) :
    Calls Try.prog 45 #[.agg #[.slice a ts.length cap], .string nm] w fun e w' => ∃ a' c', e = .returned (.tuple #[.agg #[.string (ty ts k).1.1, .slice a' (ty ts k).2.length c'], .bool true]) ∧ (Flds w'.heap.size w' a' (ty ts k).2 ∧ ∀ ad, a' = some ad → w.heap.size ≤ ad.block) ∧ Below w.heap.size w w' := by
  have b0 : Below w.heap.size w ((w.alloc (.cells #[.slice a ts.length cap] 37)).alloc (.cells #[.string ⟨#[]⟩, .slice none 0 0] 63)) := ((Below.refl _ _).alloc (Nat.le_refl _) _).alloc (by simp) _
  have s0 := hT.on b0
  have hpi : placeI (tnames ts) nm = k := by simp [placeI, hp]
  have hkl : k < ts.length := by have := placeN_lt hp; rwa [tnames_len] at this
  clear hp
  go_enter Try.func45, Try.ntmps45
  go_wp2_with fail
  refine (types_t a cap ts h5 _ s0).mono ?_
  rintro e w1 ⟨B1, rfl, hg1, hb1⟩
  go_wp2_with fail
  refine (place_c _ _ _ _ _ hg1).mono ?_
  rintro e w2 ⟨rfl, hb2⟩
  rw [hpi]
  have b2 := hb1.trans (hb2.mono hb1.size)
  have s2 := s0.on b2
  have hcs : w2.cell? ⟨w.heap.size, 0, none⟩ = some (.slice a ts.length cap) := (b2.cell (p := ⟨w.heap.size, 0, none⟩) (by simp; omega)).trans (by simp)
  have hc1 : w2.cell? ⟨w.heap.size + 1, 0, none⟩ = some (.string ⟨#[]⟩) := (b2.cell (p := ⟨w.heap.size + 1, 0, none⟩) (by simp)).trans (by simp)
  have hc2 : w2.cell? ⟨w.heap.size + 1, 1, none⟩ = some (.slice none 0 0) := (b2.cell (p := ⟨w.heap.size + 1, 1, none⟩) (by simp)).trans (by simp)
  have hf1 : w2.frozen? ⟨w.heap.size + 1, 0, none⟩ = false := (b2.frozen (p := ⟨w.heap.size + 1, 0, none⟩) (by simp)).trans (by simp)
  have hf2 : w2.frozen? ⟨w.heap.size + 1, 1, none⟩ = false := (b2.frozen (p := ⟨w.heap.size + 1, 1, none⟩) (by simp)).trans (by simp)
  have hsz2 : w.heap.size + 1 < w2.heap.size := cell_lt hc1
  rcases s2 with rfl | ⟨b, off, rfl, hb, hc⟩
  · simp at hkl
  obtain ⟨g1, a', c', g2, g3, g4⟩ := hc k hkl
  clear hc
  have b3 : Below w2.heap.size w2 (w2.alloc (.cells #[.string (ty ts k).1.1, .slice a' (ty ts k).2.length c'] 63)) := (Below.refl _ _).alloc (Nat.le_refl _) _
  have s3 := g3.on b3
  go_wp2_with fail
  refine (cloneF_c _ _ _ hk5 _ s3).mono ?_
  rintro e w4 ⟨a4, c4, rfl, ⟨s4, hn4⟩, hb4⟩
  have hc3 : w4.cell? ⟨w2.heap.size, 0, none⟩ = some (.string (ty ts k).1.1) := (hb4.cell (p := ⟨w2.heap.size, 0, none⟩) (by simp)).trans (by simp)
  have hc4 : w4.cell? ⟨w2.heap.size, 1, none⟩ = some (.slice a' (ty ts k).2.length c') := (hb4.cell (p := ⟨w2.heap.size, 1, none⟩) (by simp)).trans (by simp)
  have hf4 : w4.frozen? ⟨w2.heap.size, 1, none⟩ = false := (hb4.frozen (p := ⟨w2.heap.size, 1, none⟩) (by simp)).trans (by simp)
  have b4 := b3.trans (hb4.mono b3.size)
  have hd1 : w4.cell? ⟨w.heap.size + 1, 0, none⟩ = some (.string ⟨#[]⟩) := (b4.cell (p := ⟨w.heap.size + 1, 0, none⟩) hsz2).trans hc1
  have hd2 : w4.cell? ⟨w.heap.size + 1, 1, none⟩ = some (.slice none 0 0) := (b4.cell (p := ⟨w.heap.size + 1, 1, none⟩) hsz2).trans hc2
  have hf5 : w4.frozen? ⟨w.heap.size + 1, 0, none⟩ = false := (b4.frozen (p := ⟨w.heap.size + 1, 0, none⟩) hsz2).trans hf1
  have hf6 : w4.frozen? ⟨w.heap.size + 1, 1, none⟩ = false := (b4.frozen (p := ⟨w.heap.size + 1, 1, none⟩) hsz2).trans hf2
  have hne : w2.heap.size ≠ w.heap.size + 1 := by omega
  have hne' : ¬ w.heap.size + 1 = w2.heap.size := by omega
  clear hcs hc1 hc2 hf1 hf2 g1 g2 g3 g4
  have s4 := hide s4
  have hn4 := hide hn4
  go_wp2_with fail
  have hc1 : (w4.setCell ⟨w2.heap.size, 1, none⟩ (.slice a4 (ty ts k).2.length c4)).cell? ⟨w.heap.size + 1, 0, none⟩ = some (.string ⟨#[]⟩) := (World.cell?_setCell_other _ _ _ _ (by simp)).trans hd1
  have hc2 : (w4.setCell ⟨w2.heap.size, 1, none⟩ (.slice a4 (ty ts k).2.length c4)).cell? ⟨w.heap.size + 1, 1, none⟩ = some (.slice none 0 0) := (World.cell?_setCell_other _ _ _ _ (by simp)).trans hd2
  obtain ⟨he1, he2⟩ := two_set (v0 := .string (ty ts k).1.1) (v1 := .slice a4 (ty ts k).2.length c4) hc1 hc2
  refine bodyPost_ret (v := .tuple #[.agg #[.string (ty ts k).1.1, .slice a4 (ty ts k).2.length c4], .bool true]) (by simp [results, Try.results45, go_sem, he1, he2]) rfl ⟨a4, c4, rfl, ⟨?_, fun ad e => by have := unhide hn4 ad e; have h2 := b0.size; have h3 := b2.size; simp at this; omega⟩, ?_⟩
  · have hnew : ∀ ad, a4 = some ad → w2.heap.size + 1 ≤ ad.block := fun ad e => by have := unhide hn4 ad e; simpa using this
    have := (((unhide s4).set ⟨w2.heap.size, 1, none⟩ (.slice a4 (ty ts k).2.length c4) (fun ad e => by have := hnew ad e; simp only; omega)).set ⟨w.heap.size + 1, 0, none⟩ (.string (ty ts k).1.1) (fun ad e => by have := hnew ad e; simp only; omega)).set ⟨w.heap.size + 1, 1, none⟩ (.slice a4 (ty ts k).2.length c4) (fun ad e => by have := hnew ad e; simp only; omega)
    simpa using this
  · have b5 := b0.trans ((b2.trans (b4.mono b2.size)).mono b0.size)
    exact ((b5.setCell (p := ⟨w2.heap.size, 1, none⟩) (by simp only; omega) _).setCell (p := ⟨w.heap.size + 1, 0, none⟩) (by simp) _).setCell (p := ⟨w.heap.size + 1, 1, none⟩) (by simp) _

def fnames (fs : List Fd) : List Txt := fs.map fun f => f.1

theorem fnames_len (fs : List Fd) : (fnames fs).length = fs.length := by simp [fnames]

theorem Flds.names {n₀ : Nat} {W : World} {a : Option Addr} {fs : List Fd} : Flds n₀ W a fs → FNames n₀ W a (fnames fs)
  | .inl e => .inl (by rw [e]; rfl)
  | .inr ⟨b, off, e, hb, hc⟩ => .inr ⟨b, off, e, hb, fun j hj => by
      rw [fnames_len] at hj
      refine ⟨(hc j hj).1.trans ?_, _, (hc j hj).2⟩
      simp [fd, tx, fnames, hj]⟩

theorem fields_t (a : Option Addr) (cap : Nat) (fs : List Fd) (h5 : fs.length ≤ 5) (w : World) (hT : Flds w.heap.size w a fs) :
    Calls Try.prog 57 #[.slice a fs.length cap] w fun e w' => ∃ Bs, e = .returned (.func (.func 64) #[] #[.pointer (some ⟨Bs, 0, none⟩)]) ∧ Gives w' 64 Bs (fnames fs) ∧ Below w.heap.size w w' := by
  have h := fields_g a cap (fnames fs) (by rw [fnames_len]; exact h5) w hT.names
  rw [fnames_len] at h
  exact h

set_option maxHeartbeats 1000000 in
theorem field_c (s nm : ByteArray) (a : Option Addr) (cap : Nat) (fs : List Fd) (h5 : fs.length ≤ 5) (w : World) (hF : Flds w.heap.size w a fs) :
    Calls Try.prog 46 #[.agg #[.string s, .slice a fs.length cap], .string nm] w fun e w' => e = .returned (.int .i64 (placeI (fnames fs) nm)) ∧ Below w.heap.size w w' := by
  have b0 : Below w.heap.size w (w.alloc (.cells #[.string s, .slice a fs.length cap] 63)) := (Below.refl _ _).alloc (Nat.le_refl _) _
  have s0 := hF.on b0
  go_enter Try.func46, Try.ntmps46
  go_wp2_with fail
  refine (fields_t a cap fs h5 _ s0).mono ?_
  rintro e w1 ⟨B1, rfl, hg1, hb1⟩
  go_wp2_with fail
  refine (place_c _ _ _ _ _ hg1).mono ?_
  rintro e w2 ⟨rfl, hb2⟩
  go_wp2_with fail
  go_ret
  have b2 := hb1.trans (hb2.mono hb1.size)
  exact ⟨rfl, b0.trans (b2.mono b0.size)⟩


end Go.Proofs.Ytllpigbmkhanjaa
