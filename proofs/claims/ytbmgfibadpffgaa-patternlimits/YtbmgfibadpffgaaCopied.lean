/-
  What copied makes of a condition: a node with the same parts and as many kids, in new memory; for every tree that lies, in whatever world; nothing that lay is turned.
-/
import Derived.Test.YtbmgfibadpffgaaPlain
namespace Go.Proofs.Ytbmgfibadpffgaa
open Go.RowKit Go.Shelf

/-- What copied does with a node whose kids lie at a. -/
def CopyC (n₀ : Nat) (W0 : World) (a : Option Addr) (ks : List Tree) : Prop :=
  ∀ (d : Dat) (cap : Nat) (W : World), Sm n₀ W0 W → n₀ ≤ W.heap.size →
    Calls Try.prog 20 #[d.v a ks.length cap] W fun e W' => (∃ a' c', e = .returned (d.v a' ks.length c')) ∧ Below W.heap.size W W'

theorem owns_form {w : World} {base : Nat} {e : TypeId} {size : Nat} {v : Value} {n : Nat} {xs : List Value} (h : w.ownsRow base e size v n xs) (hn : 0 < n) :
    ∃ g cap, v = .slice (some ⟨g, 0, none⟩) n cap ∧ base ≤ g ∧ g < w.heap.size := by
  rcases h.2 with ⟨_, h0⟩ | ⟨g, cap, cur, hv, hb, hg, _⟩
  · omega
  · exact ⟨g, cap, hv, hb, (Array.getElem?_eq_some_iff.1 hg).1⟩
/-- Seven cells stored one behind the other. -/
abbrev put7 (W : World) (g p : Nat) (v0 v1 v2 v3 v4 v5 v6 : Value) : World := ((((((W.setCell ⟨g, p, none⟩ v0).setCell ⟨g, p + 1, none⟩ v1).setCell ⟨g, p + 2, none⟩ v2).setCell ⟨g, p + 3, none⟩ v3).setCell ⟨g, p + 4, none⟩ v4).setCell ⟨g, p + 5, none⟩ v5).setCell ⟨g, p + 6, none⟩ v6
theorem put7_box {W : World} {B : Nat} {t : TypeId} {cs : Array Value} (h : Box W B t cs) (g p : Nat) (v0 v1 v2 v3 v4 v5 v6 : Value) (hne : g ≠ B) : Box (put7 W g p v0 v1 v2 v3 v4 v5 v6) B t cs :=
  ((((((h.other _ _ hne).other _ _ hne).other _ _ hne).other _ _ hne).other _ _ hne).other _ _ hne).other _ _ hne
theorem put7_below {n : Nat} {A W : World} (h : Below n A W) (g p : Nat) (v0 v1 v2 v3 v4 v5 v6 : Value) (hg : n ≤ g) : Below n A (put7 W g p v0 v1 v2 v3 v4 v5 v6) :=
  ((((((h.setCell (p := ⟨g, p, none⟩) hg _).setCell (p := ⟨g, p + 1, none⟩) hg _).setCell (p := ⟨g, p + 2, none⟩) hg _).setCell (p := ⟨g, p + 3, none⟩) hg _).setCell (p := ⟨g, p + 4, none⟩) hg _).setCell (p := ⟨g, p + 5, none⟩) hg _).setCell (p := ⟨g, p + 6, none⟩) hg _
theorem put7_owns {W : World} {base g n c : Nat} {e : TypeId} {xs : List Value} (h : W.ownsRow base e 7 (.slice (some ⟨g, 0, none⟩) n c) n xs) (p : Nat) (v0 v1 v2 v3 v4 v5 v6 : Value) :
    ∃ ys, (put7 W g p v0 v1 v2 v3 v4 v5 v6).ownsRow base e 7 (.slice (some ⟨g, 0, none⟩) n c) n ys ∧ (∀ i, p + 7 ≤ i → ys[i]? = xs[i]?) ∧ ys = ((((((xs.set p v0).set (p + 1) v1).set (p + 2) v2).set (p + 3) v3).set (p + 4) v4).set (p + 5) v5).set (p + 6) v6 := by
  have h0 := (h.stored p v0).1
  have h1 := (h0.stored (p + 1) v1).1
  have h2 := (h1.stored (p + 2) v2).1
  have h3 := (h2.stored (p + 3) v3).1
  have h4 := (h3.stored (p + 4) v4).1
  have h5 := (h4.stored (p + 5) v5).1
  have h6 := (h5.stored (p + 6) v6).1
  exact ⟨_, h6, fun i hi => by simp only [List.getElem?_set]; repeat rw [if_neg (by omega)], rfl⟩
theorem NdsAt.sm {n₀ : Nat} {A B : World} (h : Sm n₀ A B) {a : Option Addr} {l : List Nd} (hN : NdsAt n₀ A a l) : NdsAt n₀ B a l := by
  rcases hN with h0 | ⟨b, off, e, hb, hc⟩
  · exact .inl h0
  · exact .inr ⟨b, off, e, hb, fun j x hx i u hu => h.cell hb (hc j x hx i u hu)⟩
theorem NdsAt.mono {n₀ n₁ : Nat} (h : n₀ ≤ n₁) {A : World} {a : Option Addr} {l : List Nd} (hN : NdsAt n₀ A a l) : NdsAt n₁ A a l := by
  rcases hN with h0 | ⟨b, off, e, hb, hc⟩
  · exact .inl h0
  · exact .inr ⟨b, off, e, by omega, hc⟩

set_option maxRecDepth 100000 in
set_option maxHeartbeats 4000000 in
theorem copied_step (n₀ : Nat) (W0 : World) (a : Option Addr) (ks : List Tree) (hlen : ks.length ≤ 1099511627776)
    (hK : ∃ l : List Nd, l.length = ks.length ∧ NdsAt n₀ W0 a l ∧ ∀ (j : Nat) x, l[j]? = some x → ∃ t, ks[j]? = some t ∧ x.d = t.dat ∧ x.m = t.kids.length ∧ CopyC n₀ W0 x.a t.kids) :
    CopyC n₀ W0 a ks := by
  intro d cap W hs hn
  obtain ⟨l, hl, hN, hV⟩ := hK
  obtain ⟨s, es⟩ : ∃ s, s = W.heap.size := ⟨_, rfl⟩
  obtain ⟨W1, hW1⟩ : ∃ W1, W1 = (W.alloc (.cells (d.cs a ks.length cap) 27)).alloc (.cells #[.int .i64 0, .int .i64 0, .int .i64 0, .string ⟨#[]⟩, .string ⟨#[]⟩, .string ⟨#[]⟩, .slice none 0 0] 27) := ⟨_, rfl⟩
  have e1 : W1.heap.size = s + 2 := by rw [hW1]; simp [es]
  have b1 : Below s W W1 := by rw [hW1, es]; exact ((Below.refl _ _).alloc (Nat.le_refl _) _).alloc (by simp) _
  have x1 : Box W1 s 27 (d.cs a ks.length cap) := by rw [hW1, es]; exact (Box.new W 27 _).alloc _
  have x2 : Box W1 (s + 1) 27 #[.int .i64 0, .int .i64 0, .int .i64 0, .string ⟨#[]⟩, .string ⟨#[]⟩, .string ⟨#[]⟩, .slice none 0 0] := by
    have := (Box.new (W.alloc (.cells (d.cs a ks.length cap) 27)) 27 #[.int .i64 0, .int .i64 0, .int .i64 0, .string ⟨#[]⟩, .string ⟨#[]⟩, .string ⟨#[]⟩, .slice none 0 0])
    simp only [World.size_alloc] at this
    rw [hW1, es]; exact this
  have hns : n₀ ≤ s := by omega
  have hsw : s ≤ W.heap.size := Nat.le_of_eq es
  have cC := cloneN_c a cap l (by omega) W1 ((hN.sm (hs.trans (Sm.of_below (b1.mono hns)))).mono (by omega))
  rw [hl] at cC
  replace cC := hide cC
  obtain ⟨hc0, hc1, hc2, hc3, hc4, hc5, hc6⟩ := x1.seven
  go_enter Try.func20, Try.ntmps20
  go_upto_region 1 with fail
  rw [← hW1, ← es]
  clear hW1
  replace es := hide es
  replace hl := hide hl
  go_wp2_with fail
  refine (unhide cC).mono ?_
  rintro e W2 ⟨a1, c1, rfl, ho2, hb2⟩
  clear cC hc0 hc1 hc2 hc3 hc4 hc5 hc6
  rw [e1] at ho2
  have y1 := x1.on hb2 x1.lt
  have y2 := x2.on hb2 x2.lt
  have b2 : Below s W W2 := b1.trans (hb2.mono (by omega))
  obtain ⟨W3, hW3⟩ : ∃ W3, W3 = W2.setCell ⟨s, 6, none⟩ (.slice a1 ks.length c1) := ⟨_, rfl⟩
  have z1 : Box W3 s 27 (d.cs a1 ks.length c1) := by rw [hW3]; exact y1.set 6 _
  have z2 : Box W3 (s + 1) 27 #[.int .i64 0, .int .i64 0, .int .i64 0, .string ⟨#[]⟩, .string ⟨#[]⟩, .string ⟨#[]⟩, .slice none 0 0] := by rw [hW3]; exact y2.other _ _ (by simp)
  have b3 : Below s W W3 := by rw [hW3]; exact b2.setCell (p := ⟨s, 6, none⟩) (Nat.le_refl _) _
  have ho3 : W3.ownsRow (s + 2) 27 7 (.slice a1 ks.length c1) ks.length (newsN l) := by rw [hW3]; exact owns_set ho2 _ _ (by simp)
  obtain ⟨hc0, hc1, hc2, hc3, hc4, hc5, hc6⟩ := y1.seven
  have hf6 := y1.frz 6
  replace ho2 := hide ho2
  replace ho3 := hide ho3
  replace hW3 := hide hW3
  go_upto_region 2 with fail
  rw [← unhide hW3]
  clear hW3 hc0 hc1 hc2 hc3 hc4 hc5 hc6 hf6
  obtain ⟨hc0, hc1, hc2, hc3, hc4, hc5, hc6⟩ := z1.seven
  go_wp2_with fail
  go_loopw [12] (fun i wr => ∃ k : Nat, k ≤ ks.length ∧ i = .int .i64 k ∧ (∃ xs, Hid (wr.ownsRow (s + 2) 27 7 (.slice a1 ks.length c1) ks.length xs) ∧ Hid (∀ i, k * 7 ≤ i → xs[i]? = (newsN l)[i]?)) ∧ Box wr s 27 (d.cs a1 ks.length c1) ∧ Box wr (s + 1) 27 #[.int .i64 0, .int .i64 0, .int .i64 0, .string ⟨#[]⟩, .string ⟨#[]⟩, .string ⟨#[]⟩, .slice none 0 0] ∧ Below s W wr) (fun i _ => ks.length - (intOf i).toNat)
  case atStart => exact ⟨0, Nat.zero_le _, rfl, ⟨newsN l, ho3, hide (fun _ _ => rfl)⟩, z1, z2, b3⟩
  case round =>
    clear hc0 hc1 hc2 hc3 hc4 hc5 hc6
    obtain ⟨k, hk, rfl, ⟨xs, hor, hxs⟩, q1, q2, hb⟩ := hrel
    by_cases hlt : k < ks.length
    · obtain ⟨x, hx⟩ : ∃ x, l[k]? = some x := ⟨_, List.getElem?_eq_getElem (by have := unhide hl; omega)⟩
      obtain ⟨t, ht, -, hxm, hCC⟩ := hV k x hx
      replace hCC : ∀ W : World, Sm n₀ W0 W → n₀ ≤ W.heap.size → Calls Try.prog 20 #[x.d.v x.a x.m x.cap] W fun e W' => (∃ a' c', e = .returned (x.d.v a' x.m c')) ∧ Below W.heap.size W W' := by rw [hxm]; exact fun W => hCC x.d x.cap W
      clear hxm
      obtain ⟨g, c', ea, hgb, hgl⟩ := owns_form (unhide hor) (by omega)
      simp only [Value.slice.injEq, true_and] at ea
      obtain ⟨rfl, rfl⟩ := ea
      have hcs : ∀ i u, x.cs[i]? = some u → wr.cell? ⟨g, k * 7 + i, none⟩ = some u := fun i u hu => by
        have h7 : i < 7 := by have := (Array.getElem?_eq_some_iff.1 hu).1; simpa using this
        rw [(unhide hor).cellAt (k * 7 + i) (by omega), unhide hxs _ (by omega), newsN_at l k x hx i h7]; exact hu
      have hfz := fun i => (unhide hor).frozenAt i
      have hd0 := hcs 0 _ rfl
      have hd1 := hcs 1 _ rfl
      have hd2 := hcs 2 _ rfl
      have hd3 := hcs 3 _ rfl
      have hd4 := hcs 4 _ rfl
      have hd5 := hcs 5 _ rfl
      have hd6 := hcs 6 _ rfl
      rw [Nat.add_zero] at hd0
      clear hcs hx ht
      obtain ⟨wk, hwk⟩ : ∃ wk, wk = wr.alloc (.cells x.cs 27) := ⟨_, rfl⟩
      have bk : Below wr.heap.size wr wk := by rw [hwk]; exact (Below.refl _ _).alloc (Nat.le_refl _) _
      have xk : Box wk wr.heap.size 27 x.cs := by rw [hwk]; exact Box.new _ _ _
      have hkl : (k : Int) < ks.length := by omega
      have hk0 : (0 : Int) ≤ k := by omega
      have hmx : Try.prog.follows .mixedOrders = true := by kernel_rfl
      replace hwk := hide hwk
      go_upto_region 5 with fail
      rw [← unhide hwk]
      clear hwk hd0 hd1 hd2 hd3 hd4 hd5 hd6
      obtain ⟨V, hV'⟩ : ∃ V, V = ({ heap := wk.heap, tape := wk.tape, drawn := wk.drawn + 1, os := wk.os, output := wk.output } : World) := ⟨_, rfl⟩
      have bV : Below wk.heap.size wk V := by rw [hV']; exact (Below.refl _ _).drew
      have bkV : Below wr.heap.size wr V := bk.trans (bV.mono bk.size)
      have cD : Box V s 27 (d.cs (some ⟨g, 0, none⟩) ks.length c1) ∧ Box V wr.heap.size 27 x.cs := ⟨q1.on bkV q1.lt, xk.on bV xk.lt⟩
      have hrn : n₀ ≤ wr.heap.size := by have := hb.size; omega
      have cK := hCC V (hs.trans ((Sm.of_below (hb.mono hns)).trans (Sm.of_below (bkV.mono hrn)))) (by have := bkV.size; omega)
      replace cK := hide cK
      refine wp_region_any hmx (wpAny_of_Z (z := 6) (C := fun w' => Box w' s 27 (d.cs (some ⟨g, 0, none⟩) ks.length c1) ∧ Box w' wr.heap.size 27 x.cs) _ _ _ _ ?_)
      rw [← hV']
      clear hV'
      refine wpAnyZ_reads 0 cD (by kernel_rfl) (by kernel_rfl) (by kernel_rfl) (by kernel_rfl) (fun d _ _ _ _ h => by cases d <;> exact h) (fun oi ho K hK => ?_)
      simp only [List.getElem?_toArray, List.getElem?_cons_zero, Option.some.injEq] at ho
      subst ho
      rw [if_pos (by kernel_rfl)]
      refine ⟨.pointer (some ⟨s, 6, none⟩), fun w' hw' => ?_, hK _ ?_⟩
      · obtain ⟨hu1, hu2⟩ := hw'
        obtain ⟨hp0, hp1, hp2, hp3, hp4, hp5, hp6⟩ := hu1.seven
        obtain ⟨hc0, hc1, hc2, hc3, hc4, hc5, hc6⟩ := hu2.seven
        go_simp
      clear hK K
      refine wpAnyZ_reads 1 cD (by kernel_rfl) (by kernel_rfl) (by kernel_rfl) (by kernel_rfl) (fun d _ _ _ _ h => by cases d <;> exact h) (fun oi ho K hK => ?_)
      simp only [List.getElem?_toArray, List.getElem?_cons_succ, List.getElem?_cons_zero, Option.some.injEq] at ho
      subst ho
      rw [if_pos (by kernel_rfl)]
      refine ⟨.slice (some ⟨g, 0, none⟩) ks.length c1, fun w' hw' => ?_, hK _ ?_⟩
      · obtain ⟨hu1, hu2⟩ := hw'
        obtain ⟨hp0, hp1, hp2, hp3, hp4, hp5, hp6⟩ := hu1.seven
        obtain ⟨hc0, hc1, hc2, hc3, hc4, hc5, hc6⟩ := hu2.seven
        go_simp
      clear hK K
      refine wpAnyZ_reads 2 cD (by kernel_rfl) (by kernel_rfl) (by kernel_rfl) (by kernel_rfl) (fun d _ _ _ _ h => by cases d <;> exact h) (fun oi ho K hK => ?_)
      simp only [List.getElem?_toArray, List.getElem?_cons_succ, List.getElem?_cons_zero, Option.some.injEq] at ho
      subst ho
      rw [if_pos (by kernel_rfl)]
      refine ⟨.int .i64 k, fun w' hw' => ?_, hK _ ?_⟩
      · obtain ⟨hu1, hu2⟩ := hw'
        obtain ⟨hp0, hp1, hp2, hp3, hp4, hp5, hp6⟩ := hu1.seven
        obtain ⟨hc0, hc1, hc2, hc3, hc4, hc5, hc6⟩ := hu2.seven
        go_simp
      clear hK K
      refine wpAnyZ_reads 3 cD (by kernel_rfl) (by kernel_rfl) (by kernel_rfl) (by kernel_rfl) (fun d _ _ _ _ h => by cases d <;> exact h) (fun oi ho K hK => ?_)
      simp only [List.getElem?_toArray, List.getElem?_cons_succ, List.getElem?_cons_zero, Option.some.injEq] at ho
      subst ho
      rw [if_pos (by kernel_rfl)]
      refine ⟨.agg x.cs, fun w' hw' => ?_, hK _ ?_⟩
      · obtain ⟨hu1, hu2⟩ := hw'
        obtain ⟨hp0, hp1, hp2, hp3, hp4, hp5, hp6⟩ := hu1.seven
        obtain ⟨hc0, hc1, hc2, hc3, hc4, hc5, hc6⟩ := hu2.seven
        go_simp
      clear hK K
      refine wpAnyZ_calls 4 (by kernel_rfl) (fun oi ho K hK => ?_)
      simp only [List.getElem?_toArray, List.getElem?_cons_succ, List.getElem?_cons_zero, Option.some.injEq] at ho
      subst ho
      go_simp
      refine (unhide cK).mono ?_
      rintro e w5 ⟨⟨a5, c5, rfl⟩, hb5⟩
      clear cK
      go_simp
      have cE : Box w5 s 27 (d.cs (some ⟨g, 0, none⟩) ks.length c1) ∧ Box w5 wr.heap.size 27 x.cs := ⟨cD.1.on hb5 cD.1.lt, cD.2.on hb5 cD.2.lt⟩
      refine hK _ _ (.inr cE) ?_
      clear hK K
      have b5 : Below wr.heap.size wr w5 := bkV.trans (hb5.mono bkV.size)
      have hor5 := owns_below (unhide hor) b5
      have hcz : ∀ i, i < 7 → ∃ u, w5.cell? ⟨g, k * 7 + i, none⟩ = some u := fun i hi => by
        rw [hor5.cellAt (k * 7 + i) (by omega)]
        exact ⟨_, List.getElem?_eq_getElem (by rw [hor5.1]; omega)⟩
      have hfz5 := fun i => hor5.frozenAt i
      obtain ⟨u0, hd0⟩ := hcz 0 (by omega)
      obtain ⟨u1, hd1⟩ := hcz 1 (by omega)
      obtain ⟨u2, hd2⟩ := hcz 2 (by omega)
      obtain ⟨u3, hd3⟩ := hcz 3 (by omega)
      obtain ⟨u4, hd4⟩ := hcz 4 (by omega)
      obtain ⟨u5, hd5⟩ := hcz 5 (by omega)
      obtain ⟨u6, hd6⟩ := hcz 6 (by omega)
      have hg0 := hfz5 (k * 7)
      have hg1 := hfz5 (k * 7 + 1)
      have hg2 := hfz5 (k * 7 + 2)
      have hg3 := hfz5 (k * 7 + 3)
      have hg4 := hfz5 (k * 7 + 4)
      have hg5 := hfz5 (k * 7 + 5)
      have hg6 := hfz5 (k * 7 + 6)
      rw [Nat.add_zero] at hd0
      clear hcz hfz5 hfz
      replace hor5 := hide hor5
      refine wpAnyZ_calls 5 (by kernel_rfl) (fun oi ho K hK => ?_)
      simp only [List.getElem?_toArray, List.getElem?_cons_succ, List.getElem?_cons_zero, Option.some.injEq] at ho
      subst ho
      go_simp
      refine hK _ _ (.inr cE) ?_
      clear hK K
      refine wpAnyZ_calls 6 (by kernel_rfl) (fun oi ho K hK => ?_)
      simp only [List.getElem?_toArray, List.getElem?_cons_succ, List.getElem?_cons_zero, Option.some.injEq] at ho
      subst ho
      go_simp
      obtain ⟨ys, hoy, hys, -⟩ := put7_owns (unhide hor5) (k * 7) (.int .i64 x.d.op) (.int .i64 x.d.k) (.int .i64 x.d.n) (.string x.d.s.1) (.string x.d.al.1) (.string x.d.fd.1) (.slice a5 x.m c5)
      have q15 := put7_box cE.1 g (k * 7) (.int .i64 x.d.op) (.int .i64 x.d.k) (.int .i64 x.d.n) (.string x.d.s.1) (.string x.d.al.1) (.string x.d.fd.1) (.slice a5 x.m c5) (by omega)
      have q25 := put7_box (q2.on b5 q2.lt) g (k * 7) (.int .i64 x.d.op) (.int .i64 x.d.k) (.int .i64 x.d.n) (.string x.d.s.1) (.string x.d.al.1) (.string x.d.fd.1) (.slice a5 x.m c5) (by omega)
      have b6 := put7_below (hb.trans (b5.mono (Nat.le_trans hsw hb.size))) g (k * 7) (.int .i64 x.d.op) (.int .i64 x.d.k) (.int .i64 x.d.n) (.string x.d.s.1) (.string x.d.al.1) (.string x.d.fd.1) (.slice a5 x.m c5) (by omega)
      obtain ⟨w6, hw6⟩ : ∃ w6, w6 = put7 w5 g (k * 7) (.int .i64 x.d.op) (.int .i64 x.d.k) (.int .i64 x.d.n) (.string x.d.s.1) (.string x.d.al.1) (.string x.d.fd.1) (.slice a5 x.m c5) := ⟨_, rfl⟩
      rw [← hw6] at hoy q15 q25 b6
      dsimp only [put7] at hw6
      rw [← hw6]
      clear hw6
      refine hK _ _ (.inl rfl) ?_
      clear hK K
      refine wpAnyZ_done (by kernel_rfl) ?_ _
      have hys' := hide (show ∀ i, (k + 1) * 7 ≤ i → ys[i]? = (newsN l)[i]? from fun i hi => (hys i (by omega)).trans (unhide hxs i (by omega)))
      replace hoy := hide hoy
      clear hd0 hd1 hd2 hd3 hd4 hd5 hd6 hg0 hg1 hg2 hg3 hg4 hg5 hg6 hys hCC hV cD cE hor5 hor hxs b5 hb5 bkV bV xk bk q1 q2 hN hs
      go_wp2_with fail
      go_roundw
      case rel => exact ⟨k + 1, by omega, by go_num, ⟨ys, hoy, hys'⟩, q15, q25, b6⟩
      case measure => simp [intOf]; omega
    · obtain ⟨hc0, hc1, hc2, hc3, hc4, hc5, hc6⟩ := q1.seven
      obtain ⟨hr0, hr1, hr2, hr3, hr4, hr5, hr6⟩ := q2.seven
      have hf0 := q2.frz 0
      have hf1 := q2.frz 1
      have hf2 := q2.frz 2
      have hf3 := q2.frz 3
      have hf4 := q2.frz 4
      have hf5 := q2.frz 5
      have hf6 := q2.frz 6
      go_wp2_with fail
      have f2 := ((((((q2.set 0 (.int .i64 d.op)).set 1 (.int .i64 d.k)).set 2 (.int .i64 d.n)).set 3 (.string d.s.1)).set 4 (.string d.al.1)).set 5 (.string d.fd.1)).set 6 (.slice a1 ks.length c1)
      obtain ⟨g0, g1, g2, g3, g4, g5, g6⟩ := (show Box _ (s + 1) 27 (d.cs a1 ks.length c1) from f2).seven
      refine bodyPost_ret (v := d.v a1 ks.length c1) ?_ rfl ⟨⟨a1, c1, rfl⟩, ?_⟩
      · simp [results, Try.results20, go_sem, g0, g1, g2, g3, g4, g5, g6]
      · have := put7_below hb (s + 1) 0 (.int .i64 d.op) (.int .i64 d.k) (.int .i64 d.n) (.string d.s.1) (.string d.al.1) (.string d.fd.1) (.slice a1 ks.length c1) (by omega)
        rw [← unhide es]
        simpa using this

theorem copied_C (n₀ : Nat) (W0 : World) (a : Option Addr) (ks : List Tree) (hL : Lies n₀ W0 a ks) : CopyC n₀ W0 a ks := by
  induction hL with
  | nil a => exact copied_step n₀ W0 a [] (by simp) ⟨[], rfl, .inl rfl, fun j x h => by simp at h⟩
  | row b off ks f hl hb hc hk ih =>
    refine copied_step n₀ W0 _ ks hl ⟨ks.mapIdx fun j t => ⟨t.dat, (f j).1, t.kids.length, (f j).2⟩, by simp, .inr ⟨b, off, rfl, hb, fun j x hx i u hu => ?_⟩, fun j x hx => ?_⟩
    · simp only [List.getElem?_mapIdx, Option.map_eq_some_iff] at hx
      obtain ⟨t, ht, rfl⟩ := hx
      exact hc j t ht i u hu
    · simp only [List.getElem?_mapIdx, Option.map_eq_some_iff] at hx
      obtain ⟨t, ht, rfl⟩ := hx
      exact ⟨t, ht, rfl, rfl, ih j t ht⟩

end Go.Proofs.Ytbmgfibadpffgaa
