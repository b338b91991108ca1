/-
  What whole makes of pieces: their text.
-/
import Derived.Test.YtfofpenajkaalaaDoorBuild
import Derived.Test.YtfofpenajkaalaaDoorPiecesAll
namespace Go.Proofs.YtfofpenajkaalaaDoor
open Go.RowKit Go.Shelf

attribute [local go_sem] Oper.semAt_some

/-- The bytes of pieces, one behind the other. -/
def flatB (ps : List ByteArray) : List UInt8 := ps.flatMap fun x => x.data.toList
theorem flatB_append (a b : List ByteArray) : flatB (a ++ b) = flatB a ++ flatB b := by simp [flatB]
theorem flatB_snoc (a : List ByteArray) (x : ByteArray) : Lib.byteCells (flatB (a ++ [x])) = Lib.byteCells (flatB a) ++ Lib.strCells x := by
  rw [flatB_append, Lib.byteCells_append, Lib.strCells_eq]; simp [flatB]

/-- The blocks that a round turns which writes to the builder b; worlds in which that builder stands. -/
def BX (b : Nat) (k : Nat) (W : World) : Prop := k = b ∨ ∃ p v, W.heap[b]? = some (.cells #[p, v] 69 (0, 0)) ∧ v.ownBlock = some k
def BG (n₀ b : Nat) (W : World) : Prop := ∃ p v, W.heap[b]? = some (.cells #[p, v] 69 (0, 0)) ∧ ∀ g, v.ownBlock = some g → n₀ ≤ g ∧ g < W.heap.size
theorem cells_two {W : World} {b : Nat} {p v p' v' : Value} (h : W.heap[b]? = some (.cells #[p, v] 69 (0, 0))) (k : W.heap[b]? = some (.cells #[p', v'] 69 (0, 0))) : v = v' := by
  rw [h] at k; simp at k; exact k.2
theorem cls_builder (n₀ b : Nat) (hb : n₀ ≤ b) : ClsG n₀ (BX b) (BG n₀ b) where
  low := fun W k ⟨p, v, hv, hg⟩ hx => by
    rcases hx with rfl | ⟨p', v', hv', hk⟩
    · exact ⟨hb, (Array.getElem?_eq_some_iff.1 hv).1⟩
    · have := cells_two hv hv'; subst this; exact hg k hk
  grow := fun W W1 row ⟨p, v, hv, hg⟩ hgr hrow => by
    have hb1 : W1.heap[b]? = W.heap[b]? := hgr.block b (Array.getElem?_eq_some_iff.1 hv).1 fun e => by
      obtain ⟨o, ho, hc⟩ := hrow b e.symm
      rw [hv] at ho; cases ho; cases hc
    refine ⟨⟨p, v, hb1.trans hv, fun g h => ⟨(hg g h).1, Nat.lt_of_lt_of_le (hg g h).2 hgr.size⟩⟩, fun k hx => ?_⟩
    rcases hx with rfl | ⟨p', v', hv', hk⟩
    · exact .inl rfl
    · exact .inr ⟨p', v', hb1.symm.trans hv', hk⟩

theorem builder_at {n₀ b : Nat} {bs : List Value} {W : World} (h : Lib.IsBuilderF 69 5 n₀ b bs W) : n₀ ≤ b ∧ ∃ p v, W.heap[b]? = some (.cells #[p, v] 69 (0, 0)) ∧ W.ownsRowF n₀ 5 1 v bs.length bs := by
  rcases h with ⟨hB, v, h1, h2, -⟩ | ⟨hB, v, h1, h2, -⟩
  · exact ⟨hB, _, v, h1, h2⟩
  · exact ⟨hB, _, v, h1, h2⟩
theorem builder_good {n₀ b : Nat} {bs : List Value} {W : World} (h : Lib.IsBuilderF 69 5 n₀ b bs W) : BG n₀ b W := by
  obtain ⟨-, p, v, h1, h2⟩ := builder_at h
  exact ⟨p, v, h1, h2.lt⟩
theorem owns_cellsF {n₀ n : Nat} {xs : List Value} {v : Value} {W : World} (h : W.ownsRowF n₀ 5 1 v n xs) {g : Nat} (hg : v.ownBlock = some g) : ∃ c fz, W.heap[g]? = some (.cells c 5 fz) := by
  rcases h.2 with ⟨rfl, -⟩ | ⟨g', cap, cur, fz, rfl, -, h1, -⟩
  · cases hg
  · cases hg; exact ⟨cur, fz, h1⟩
theorem keepX_only {n₀ b : Nat} {bs : List Value} {p v p' v' : Value} {W W' : World} (h : Only b p v p' v' W W') (h' : Lib.IsBuilderF 69 5 n₀ b bs W') : KeepX (BX b) (BG n₀ b) W W' := fun _ => by
  obtain ⟨h1, h2, h3, h4, h5⟩ := h
  refine ⟨builder_good h', h3, fun k o hk hc hx => ?_⟩
  have hlt := (Array.getElem?_eq_some_iff.1 hk).1
  have hkb : k ≠ b := fun e => hx (.inl e)
  have hkv : v.ownBlock ≠ some k := fun e => hx (.inr ⟨p, v, h1, e⟩)
  refine ⟨(h4 k hlt hkb hkv).trans hk, fun hx' => ?_⟩
  rcases hx' with e | ⟨p2, v2, hv2, hk2⟩
  · exact hkb e
  · have := cells_two h2 hv2; subst this
    rcases h5 with e | ⟨g, e, hg⟩
    · exact hkv (e ▸ hk2)
    · rw [hk2] at e; cases e; omega
theorem keeps_only {n₀ b m : Nat} {bs : List Value} {p v p' v' : Value} {W W' : World} (h : Only b p v p' v' W W') (hb : Lib.IsBuilderF 69 5 n₀ b bs W) : KeepsFrom m W W' := by
  obtain ⟨h1, h2, h3, h4, h5⟩ := h
  obtain ⟨-, p2, v2, hv2, hown⟩ := builder_at hb
  have e := cells_two h1 hv2; subst e
  refine ⟨h3, fun k o _ hk ho => (h4 k (Array.getElem?_eq_some_iff.1 hk).1 (fun e => ?_) (fun e => ?_)).trans hk⟩
  · subst e; rw [h1] at hk; cases hk; cases ho
  · obtain ⟨c, fz, hc⟩ := owns_cellsF hown e
    rw [hc] at hk; cases hk; cases ho
theorem builder_own {β : Type} (n₀ b B : Nat) (f : β → List Value) : OwnP okN B (fun s W => Lib.IsBuilderF 69 5 n₀ b (f s) W) := fun s W W1 row hs hg hr => by
  have hb : ∀ p v, W.heap[b]? = some (.cells #[p, v] 69 (0, 0)) → W1.heap[b]? = some (.cells #[p, v] 69 (0, 0)) := fun p v hv => (hg.block b (Array.getElem?_eq_some_iff.1 hv).1 fun e => by
    obtain ⟨o, ho, hc⟩ := (hr b e.symm).2
    rw [hv] at ho; cases ho; cases hc).trans hv
  have ho : ∀ v, W.ownsRowF n₀ 5 1 v (f s).length (f s) → W1.ownsRowF n₀ 5 1 v (f s).length (f s) := fun v hv => hv.kept hg (by
    cases hv2 : v.ownBlock with
    | none => exact .inl rfl
    | some g =>
      refine .inr fun e => ?_
      obtain ⟨c, fz, hc⟩ := owns_cellsF hv hv2
      obtain ⟨o, ho, hn⟩ := (hr g e.symm).2
      rw [hc] at ho; cases ho; cases hn)
  rcases hs with ⟨hB, v, h1, h2, h3⟩ | ⟨hB, v, h1, h2, h3⟩
  · exact .inl ⟨hB, v, hb _ _ h1, ho v h2, h3⟩
  · exact .inr ⟨hB, v, hb _ _ h1, ho v h2, h3⟩

set_option maxRecDepth 100000 in
set_option maxHeartbeats 4000000 in
theorem whole_c (m : Nat) (v : Value) (ps : List ByteArray) (w : World) (hp : Pcs m w v ps) (hsz : (flatB ps).length ≤ 140737488355328) :
    Calls Tryd.prog 21 #[v] w fun e w' => e = .returned (.string ⟨(flatB ps).toArray⟩) ∧ Below w.heap.size w w' := by
  obtain ⟨s, es⟩ : ∃ s, s = w.heap.size := ⟨_, rfl⟩
  obtain ⟨W0, hW0⟩ : ∃ W0, W0 = w.alloc (.cells #[.pointer none, .slice none 0 0] 69) := ⟨_, rfl⟩
  have b0 : Below s w W0 := by rw [hW0, es]; exact (Below.refl _ _).alloc (Nat.le_refl _) _
  have x0 : W0.heap[s]? = some (.cells #[.pointer none, .slice none 0 0] 69 (0, 0)) := by rw [hW0, es]; exact World.alloc_heap_new _ _
  have hbd : Lib.IsBuilderF 69 5 s s [] W0 := .inl ⟨Nat.le_refl _, _, x0, World.ownsRowF_nil _ _ _ _, by simp [Value.ownBlock]⟩
  have e0 : W0.heap.size = s + 1 := by rw [hW0, es]; simp
  have hcl := cls_builder s s (Nat.le_refl _)
  obtain ⟨g, lb, rfl, en, -, H⟩ := hp
  have HH : ∀ W', Below W0.heap.size W0 W' → BG s s W' → Gives ps g lb (BX s) (BG s s) W' := fun W' hb' hG' =>
    H s (BX s) (BG s s) hcl (Nat.le_of_eq es.symm) W' (by rw [← es]; exact SmB.below (b0.trans (hb'.mono (by omega)))) (by rw [← es]; have := hb'.size; omega) hG'
  refine callsIn_wide.1 (show CallsIn Fence.wide 5 _ _ _ _ _ from ?_)
  refine callsIn_of_wp_marks Tryd.func21 rfl trivial ?_ rfl
  simp only [Tryd.ntmps21, List.size_toArray, List.length_cons, List.length_nil, Nat.reduceAdd, Nat.reduceSub, Array.replicate_succ, Array.replicate_zero, List.push_toArray, List.append_toArray, List.nil_append, List.cons_append]
  gi_upto_region 2 with fail
  rw [← hW0, ← es]
  clear hW0
  have hws : w.heap.size ≤ s := Nat.le_of_eq es.symm
  have hsw : s ≤ w.heap.size := Nat.le_of_eq es
  replace es := hide es
  replace H := hide H
  gi_wp2_with fail
  refine wpIn_rangeFunc_told (ok := okN) (fun o h => h) rfl (by decide) (gf := g) (lb := lb) rfl trivial en
    (Gives.told hcl (builder_good hbd) _ HH) KeepX.trans
    (fun W' l' o' o'' hl h hc hw => KeepX.put hcl.cls W' h hc o'') (Below.refl _ _) (fun _ => rfl)
    (fun pre W' => Lib.IsBuilderF 69 5 s s (Lib.byteCells (flatB pre)) W' ∧ Below s w W')
    (fun _ _ _ => False)
    (ownP_and (builder_own s s _ (fun (pre : List ByteArray) => Lib.byteCells (flatB pre))) (ownP_below (by omega) (by omega)))
    (fun c => fun _ _ _ _ hs _ _ => hs)
    ⟨hbd, b0⟩
    (fun pre x a1 _ => ElS ps pre x w ∧ a1 = { tmps := #[.func (.func g) #[] lb, undef, .string ⟨#[]⟩, .pointer (some ⟨s, 0, none⟩), .string x, .func (.func g) #[] lb, .string x, undef, undef, undef], defers := [] })
    (fun pre x a1 => fun _ _ _ _ hs _ _ => hs) ?assign ?body ?done ?stop
  case assign =>
    rintro l2 pre x W1 K hi he hK
    gi_wp2_with fail
    exact hK _ _ (KeepsFrom.refl _ _) (KeepX.refl _ _ _) hi ⟨he, rfl⟩
  case body =>
    rintro l2 pre x a1 W1 ⟨hb1, hbel⟩ ⟨⟨rest, hr⟩, rfl⟩
    have hln : (Lib.byteCells (flatB pre)).length + x.size ≤ 140737488355328 := by
      rw [Lib.byteCells_length]
      rw [← hr, flatB_append] at hsz
      simp only [flatB, List.flatMap_cons, List.length_append, Array.length_toList] at hsz ⊢
      have : x.size = x.data.size := rfl
      omega
    have hcall := hide (CallsIn.inRound l2 (callsIn_wide.2 (writeString_c s s _ x W1 hb1 hln (by have := hbel.size; omega))) : CallsIn (Fence.wide.inRound l2) 2 Tryd.prog 42 #[.pointer (some ⟨s, 0, none⟩), .string x] W1 _)
    clear hr
    gi_wp2_with fail
    refine ⟨trivial, ?_⟩
    refine (unhide hcall).mono ?_
    rintro e W3 ⟨⟨u, rfl⟩, hb3, hbe3, p, v, p', v', hon⟩
    rw [← flatB_snoc] at hb3
    gi_wp2_with fail
    exact ⟨keeps_only hon hb1, keepX_only hon hb3, hb3, hbel.trans hbe3⟩
  case done =>
    rintro D xs W1 hD rfl ⟨hb1, hbel⟩ hK
    have hcall := hide (callsIn_wide.2 (Tryd.Builder_String_any_k s s _ W1 hb1 (by have := hbel.size; omega)) : CallsIn Fence.wide 4 Tryd.prog 43 #[.pointer (some ⟨s, 0, none⟩)] W1 _)
    gi_wp2_with fail
    refine ⟨trivial, ?_⟩
    refine (unhide hcall).mono ?_
    rintro e W3 ⟨rfl, hb3, hbe3, hok⟩
    have hK3 : W3.heap[D]? = some (.deferred (some [])) := hok D _ hK (by intro e; cases e; omega) (fun c fz e => by cases e)
    gi_wp2_with fail
    refine ⟨by simp, .inl ⟨_, _, rfl, run_takeDeferred hK3, ?_⟩⟩
    refine ⟨_, results_tmp rfl _ _ _, rfl, ?_⟩
    rw [← unhide es]
    exact (hbel.trans hbe3).trans (belowK_b (w := w) hsw W3 D _ _ (by omega) hK3 rfl rfl)
  case stop =>
    rintro D c pre W1 hD _ h _
    exact h.elim

end Go.Proofs.YtfofpenajkaalaaDoor
