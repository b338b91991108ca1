/-
  How many nodes Nodes answers of a condition: for every tree that lies, in whatever world; nothing that lay is turned.
-/
import Derived.Test.YtbmgfibadpffgaaCopied
import Derived.Test.YtbmgfibadpffgaaReadsY
namespace Go.Proofs.Ytbmgfibadpffgaa
open Go.RowKit Go.Shelf

attribute [local go_sem] Oper.semAt_some

/-- How many steps have a sign. -/
def cntL (l : List (Nat × Tree)) : Nat := (l.filter fun p => decide (p.2.dat.op ≠ 0)).length
def nodesN (t : Tree) : Nat := cntL (walkT 1 t)
theorem cntL_append (l m : List (Nat × Tree)) : cntL (l ++ m) = cntL l + cntL m := by simp [cntL]
theorem cntL_one (p : Nat × Tree) : cntL [p] = if p.2.dat.op = 0 then 0 else 1 := by
  unfold cntL
  by_cases h : p.2.dat.op = 0 <;> simp [h]

abbrev NX (s k : Nat) (W : World) : Prop := k = s + 1 ∨ ∃ v, Box W (s + 1) 25 #[v] ∧ v.ownBlock = some k
def NG (s : Nat) (W : World) : Prop := ∃ v, Box W (s + 1) 25 #[v] ∧ ∀ g, v.ownBlock = some g → s + 3 ≤ g ∧ g < W.heap.size
theorem box_one {W : World} {B : Nat} {t : TypeId} {u v : Value} (h : Box W B t #[u]) (k : Box W B t #[v]) : u = v := by
  unfold Box at h k
  rw [h] at k
  simpa using k
theorem cls_nodes (s : Nat) : Cls s (NX s) (NG s) where
  al W o := fun ⟨v, hb, hg⟩ => ⟨v, hb.alloc o, fun g e => by have := hg g e; simp; omega⟩
  new W o := fun ⟨v, hb, hg⟩ hx => by
    have := hb.lt
    rcases hx with h | ⟨v', hb', e⟩
    · omega
    · rw [← box_one (hb.alloc o) hb'] at e
      have := hg _ e; omega
  old W o k := fun ⟨v, hb, hg⟩ hx hx' => by
    rcases hx' with h | ⟨v', hb', e⟩
    · exact hx (.inl h)
    · rw [← box_one (hb.alloc o) hb'] at e
      exact hx (.inr ⟨v, hb, e⟩)
  low W k := fun ⟨v, hb, hg⟩ hx => by
    rcases hx with h | ⟨v', hb', e⟩
    · omega
    · rw [← box_one hb hb'] at e
      have := hg _ e; omega
  put W l o o' := fun ⟨v, hb, hg⟩ hl ho => by
    have hb2 : Box (W.putObj l o') (s + 1) 25 #[v] := hb.put hl ho o'
    refine ⟨⟨v, hb2, fun g e => by have := hg g e; simpa using this⟩, fun k hx hx' => ?_⟩
    rcases hx' with h | ⟨v', hb', e⟩
    · exact hx (.inl h)
    · rw [← box_one hb2 hb'] at e
      exact hx (.inr ⟨v, hb, e⟩)
theorem nodes_keep {s : Nat} {W W' : World} {v v' : Value} (h1 : Box W (s + 1) 25 #[v]) (h2 : Box W' (s + 1) 25 #[v']) (h3 : ∀ g, v'.ownBlock = some g → s + 3 ≤ g ∧ g < W'.heap.size)
    (h4 : v'.ownBlock = v.ownBlock ∨ ∃ g, v'.ownBlock = some g ∧ W.heap.size ≤ g) (h5 : W.heap.size ≤ W'.heap.size)
    (h6 : ∀ k o, W.heap[k]? = some o → o.isCells = true → k ≠ s + 1 → v.ownBlock ≠ some k → W'.heap[k]? = some o) : KeepX (NX s) (NG s) W W' := fun _ =>
  ⟨⟨v', h2, h3⟩, h5, fun k o hk hc hx => ⟨h6 k o hk hc (fun e => hx (.inl e)) (fun e => hx (.inr ⟨v, h1, e⟩)), fun hx' => by
    rcases hx' with e | ⟨u, hu, e⟩
    · exact hx (.inl e)
    · rw [← box_one h2 hu] at e
      rcases h4 with h4 | ⟨g, h4, hg⟩
      · exact hx (.inr ⟨v, h1, by rw [← h4]; exact e⟩)
      · rw [h4] at e; cases e
        have := (Array.getElem?_eq_some_iff.1 hk).1
        omega⟩⟩
theorem ownP_size {β : Type} {ok : Obj → Prop} {B m : Nat} : OwnP ok B (fun (_ : β) W => m ≤ W.heap.size) := fun _ _ _ _ hs hg _ => Nat.le_trans hs hg.size
theorem news_box {W : World} {B : Nat} {t : TypeId} {cs : Array Value} (h : Box W B t cs) : ∀ j u, cs.toList[j]? = some u → W.cell? ((⟨B, 0, none⟩ : Addr).add j) = some u := fun j u hu => by
  rw [WideShapes.add_plain, Nat.zero_add]
  exact h.at j (by rwa [Array.getElem?_toList] at hu)
theorem ownP_row {β : Type} {B base : Nat} {e : TypeId} (size : Nat) (v : β → Value) (n : β → Nat) (xs : List Value) : OwnP okN B (fun (p : β) W => W.ownsRow base e size (v p) (n p) xs) := fun _ A C row hs hg hr =>
  owns_keep hs fun g hgo hl => hg.block g hl (fun e' => by
    obtain ⟨_, cur, hc⟩ := owns_lt hs hgo
    obtain ⟨_, o, ho, hok⟩ := hr g e'.symm
    rw [hc] at ho
    cases ho
    cases hok)

theorem nodes_end {s m g c : Nat} {W u u5 F : World} {v : Value} {xs ys : List Value} (hb1 : Box W (s + 1) 25 #[v]) (hor : W.ownsRow (s + 3) 27 7 v m xs) (bu : Below W.heap.size W u) (hg5 : u.grownBy u5 v.ownBlock)
    (hw5 : (Value.slice (some ⟨g, 0, none⟩) (m + 1) c).ownBlock = v.ownBlock ∨ (Value.slice (some ⟨g, 0, none⟩) (m + 1) c).ownBlock = some u.heap.size) (hs : u5.heap.size ≤ F.heap.size) (hF : ∀ k, k ≠ s + 1 → k ≠ g → F.heap[k]? = u5.heap[k]?)
    (hb : Box F (s + 1) 25 #[.slice (some ⟨g, 0, none⟩) (m + 1) c]) (hoF : F.ownsRow (s + 3) 27 7 (.slice (some ⟨g, 0, none⟩) (m + 1) c) (m + 1) ys) : KeepsFrom (s + 3) W F ∧ KeepX (NX s) (NG s) W F := by
  have hsz : W.heap.size ≤ F.heap.size := Nat.le_trans bu.size (Nat.le_trans hg5.size hs)
  have same : ∀ k o, W.heap[k]? = some o → k ≠ s + 1 → v.ownBlock ≠ some k → F.heap[k]? = some o := fun k o hk h1 h2 => by
    have hl := (Array.getElem?_eq_some_iff.1 hk).1
    have hku := (bu.block k hl).trans hk
    have hk5 : u5.heap[k]? = some o := (hg5.block k (by have := bu.size; omega) (fun e => h2 e.symm)).trans hku
    refine (hF k h1 (fun e => ?_)).trans hk5
    subst e
    rcases hw5 with h | h
    · exact h2 h.symm
    · simp only [Value.ownBlock, Option.some.injEq] at h
      have := bu.size
      omega
  refine ⟨⟨hsz, fun k o _ hk ho => same k o hk (fun e => ?_) (fun e => ?_)⟩, nodes_keep hb1 hb hoF.lt ?_ hsz fun k o hk _ h1 h2 => same k o hk h1 h2⟩
  · subst e
    have := hb1
    unfold Box at this
    rw [hk] at this
    cases this
    cases ho
  · obtain ⟨_, cur, hc⟩ := owns_lt hor e
    rw [hc] at hk
    cases hk
    cases ho
  · rcases hw5 with h | h
    · exact .inl h
    · exact .inr ⟨_, h, bu.size⟩
theorem put7_block (W : World) (g p : Nat) (v0 v1 v2 v3 v4 v5 v6 : Value) {k : Nat} (hk : k ≠ g) : (put7 W g p v0 v1 v2 v3 v4 v5 v6).heap[k]? = W.heap[k]? := by
  have h : ∀ (W : World) (i : Nat) (v : Value), (W.setCell ⟨g, i, none⟩ v).heap[k]? = W.heap[k]? := fun W i v => setCell_block W _ v (Ne.symm hk)
  simp only [put7, h]
theorem put7_size (W : World) (g p : Nat) (v0 v1 v2 v3 v4 v5 v6 : Value) : (put7 W g p v0 v1 v2 v3 v4 v5 v6).heap.size = W.heap.size := by simp [put7]

set_option maxRecDepth 100000 in
set_option maxHeartbeats 4000000 in
theorem nodes_in (n : Nat) (hn : 5 ≤ n) (d : Dat) (a : Option Addr) (ks : List Tree) (cap : Nat) (hM : nodesN (.mk d ks) ≤ 1000000) (w : World) (hL : Lies w.heap.size w a ks) :
    CallsIn Fence.wide n Try.prog 12 #[d.v a ks.length cap] w fun e W' => (∃ a' c', e = .returned (.slice a' (nodesN (.mk d ks)) c')) ∧ Below w.heap.size w W' := by
  have h1 : 1 ≤ n := by omega
  have hro : Fence.wide.round = none := rfl
  have hdl := hL.len
  obtain ⟨s, es⟩ : ∃ s, s = w.heap.size := ⟨_, rfl⟩
  obtain ⟨W0, hW0⟩ : ∃ W0, W0 = (w.alloc (.cells (d.cs a ks.length cap) 27)).alloc (.cells #[.slice none 0 0] 25) := ⟨_, rfl⟩
  have e0 : W0.heap.size = s + 2 := by rw [hW0]; simp [es]
  have b0 : Below s w W0 := by rw [hW0, es]; exact ((Below.refl _ _).alloc (Nat.le_refl _) _).alloc (by simp) _
  have x1 : Box W0 s 27 (d.cs a ks.length cap) := by rw [hW0, es]; exact (Box.new w 27 _).alloc _
  have x3 : Box W0 (s + 1) 25 #[.slice none 0 0] := by
    have := (Box.new (w.alloc (.cells (d.cs a ks.length cap) 27)) 25 #[.slice none 0 0])
    simp only [World.size_alloc] at this
    rw [hW0, es]; exact this
  obtain ⟨hc0, hc1, hc2, hc3, hc4, hc5, hc6⟩ := x1.seven
  refine callsIn_of_wp_marks Try.func12 rfl trivial ?_ rfl
  simp only [Try.ntmps12, List.size_toArray, List.length_cons, List.length_nil, Nat.reduceAdd, Nat.reduceSub, Array.replicate_succ, Array.replicate_zero, List.push_toArray, List.append_toArray, List.nil_append, List.cons_append]
  gi_upto_region 2 with fail
  rw [← hW0, ← es]
  clear hW0
  have hsw : s ≤ w.heap.size := Nat.le_of_eq es
  have hws : w.heap.size ≤ s := Nat.le_of_eq es.symm
  replace hL : Lies s w a ks := by rw [es]; exact hL
  replace es := hide es
  gi_wp2_with fail
  refine ⟨trivial, ?_⟩
  refine (callsIn_wide.2 (walk_c d a ks.length cap W0)).mono ?_
  rintro e w1 ⟨rfl, ew⟩
  have b1 : Below W0.heap.size W0 w1 := by rw [ew]; exact (Below.refl _ _).alloc (Nat.le_refl _) _
  have e1 : w1.heap.size = s + 3 := by rw [ew]; simp [e0]
  have x4 : Box w1 (s + 2) 27 (d.cs a ks.length cap) := by rw [ew, ← e0]; exact Box.new _ _ _
  rw [e0]
  clear ew hc0 hc1 hc2 hc3 hc4 hc5 hc6
  have bw1 : Below s w w1 := b0.trans (b1.mono (by omega))
  have x31 := x3.on b1 x3.lt
  gi_wp2_with fail
  refine wpIn_rangeFunc_told (ok := okN) (fun o h => h) hro h1 (gf := 27) (lb := #[.pointer (some ⟨s + 2, 0, none⟩)]) rfl trivial (enters_of Try.func27 (by kernel_rfl) rfl)
    (walk_told (n - 1) (s + 2) s (NX s) (NG s) (cls_nodes s) d a ks cap w1 (by omega) (hL.sm (Sm.of_below bw1)) x4 (fun W hW => ⟨_, x31.on hW x31.lt, fun g e => by cases e⟩)) KeepX.trans
    (fun W l o o' hl h hc hw => KeepX.put (cls_nodes s) W h hc o') (Below.refl _ _) (fun _ => rfl)
    (fun pre W => ∃ v xs, Box W (s + 1) 25 #[v] ∧ W.ownsRow (s + 3) 27 7 v (cntL (pre.map Step.p)) xs ∧ Below s w W ∧ s + 3 ≤ W.heap.size)
    (fun c pre W => False)
    (ownP_ex fun v => ownP_ex fun xs => ownP_and (ownP_box (by omega) _ (fun _ => _)) (ownP_and (ownP_row 7 (fun _ => v) (fun (pre : List Step) => cntL (pre.map Step.p)) xs) (ownP_and (ownP_below (by omega) (by omega)) ownP_size)))
    (fun c => ownP_pure _ _ (fun _ => False))
    ⟨_, [], x31, World.ownsRow_nil _ _ _ _, bw1, by omega⟩
    (fun pre x a1' W => ∃ B1, Box W B1 27 (x.t.dat.cs x.a x.t.kids.length x.cap) ∧ (Lies s W x.a x.t.kids ∧ B1 ≠ s + 1) ∧ Hid (∃ rest, pre.map Step.p ++ x.p :: rest = walkT 1 (.mk d ks)) ∧ a1' = { tmps := #[d.v a ks.length cap, .pointer (some ⟨s, 0, none⟩), .slice none 0 0, .pointer (some ⟨s + 1, 0, none⟩), undef, .pointer (some ⟨B1, 0, none⟩), d.v a ks.length cap, .func (.func 27) #[] #[.pointer (some ⟨s + 2, 0, none⟩)], .int .i64 x.d, x.t.dat.v x.a x.t.kids.length x.cap, undef, undef, undef, undef, undef, undef, undef, undef, undef, undef, undef], defers := [] })
    (fun pre x a1' st A B row hs hg hr => by
      obtain ⟨B1, hf1, ⟨hf2, hf3⟩, hf4, e⟩ := hs
      exact ⟨B1, box_own _ _ (fun _ => _) st A B row hf1 hg (fun r e => (hr r e).2), ⟨hf2.sm (fun k o hk ho hc => (hg.block k (Array.getElem?_eq_some_iff.1 ho).1 (fun e => by obtain ⟨h1, _⟩ := hr k e.symm; omega)).trans ho), hf3⟩, hf4, e⟩) ?assign ?body ?done ?stop
  case assign =>
    rintro l pre x W K ⟨v, xs, hb1, hor, hB, hW3⟩ ⟨he1, he2⟩ hK
    obtain ⟨WA, hWA⟩ : ∃ WA, WA = W.alloc (.cells (x.t.dat.cs x.a x.t.kids.length x.cap) 27) := ⟨_, rfl⟩
    have bA : Below W.heap.size W WA := by rw [hWA]; exact (Below.refl _ W).alloc (Nat.le_refl _) _
    have q1 : Box WA W.heap.size 27 (x.t.dat.cs x.a x.t.kids.length x.cap) := by rw [hWA]; exact Box.new W 27 _
    replace he1 := hide he1
    replace he2 := hide he2
    replace hWA := hide hWA
    replace hor := hide hor
    gi_wp2
    rw [← unhide hWA]
    have hor' := owns_below (unhide hor) bA
    refine hK _ _ ?_ ?_ ?_ ?_
    · exact (keeps_below bA).from _
    · exact nodes_keep hb1 (hb1.on bA hb1.lt) (hor'.lt) (.inl rfl) bA.size (fun k o hk _ _ _ => (bA.block k (Array.getElem?_eq_some_iff.1 hk).1).trans hk)
    · exact ⟨v, xs, hb1.on bA hb1.lt, hor', hB.trans (bA.mono (Nat.le_trans hsw hB.size)), Nat.le_trans hW3 bA.size⟩
    · exact ⟨W.heap.size, q1, ⟨(unhide he1).sm (Sm.of_below (bA.mono (Nat.le_trans hsw hB.size))), by have := hb1.lt; omega⟩, he2, rfl⟩
  case body =>
    rintro l pre x a1' W ⟨v, xs, hb1, hor, hB, hW3⟩ ⟨B1, hq, ⟨hLx, hne⟩, he2, rfl⟩
    have h2 : 1 ≤ n - 1 - 1 := by omega
    obtain ⟨hd0, hd1, hd2, hd3, hd4, hd5, hd6⟩ := hq.seven
    have hcn := hide (show cntL ((pre ++ [x]).map Step.p) = cntL (pre.map Step.p) + (if x.t.dat.op = 0 then 0 else 1) by rw [List.map_append, cntL_append]; simp [cntL_one])
    have hmm : cntL (pre.map Step.p) ≤ 1000000 := by
      obtain ⟨rest, hr⟩ := unhide he2
      have : nodesN (.mk d ks) = cntL (pre.map Step.p) + cntL (x.p :: rest) := by unfold nodesN; rw [← hr, cntL_append]
      omega
    obtain ⟨m, hm⟩ : ∃ m, m = cntL (pre.map Step.p) := ⟨_, rfl⟩
    rw [← hm] at hor hcn hmm
    clear hm
    replace hor := hide hor
    by_cases c0 : x.t.dat.op = 0
    · rw [if_pos c0, Nat.add_zero] at hcn
      rw [c0] at hd0
      gi_wp2_with fail
      exact ⟨KeepsFrom.refl _ _, KeepX.refl _ _ _, v, xs, hb1, by rw [unhide hcn]; exact unhide hor, hB, hW3⟩
    rw [if_neg c0] at hcn
    have e0' : (x.t.dat.op == 0) = false := by simp [c0]
    clear c0
    obtain ⟨i0, hi0, hz0, hz1, hz2⟩ := info_parts infoX
    have hmx : Try.prog.follows .mixedOrders = true := by kernel_rfl
    gi_upto_region 5 with fail
    obtain ⟨V, hV'⟩ : ∃ V, V = ({ heap := W.heap, tape := W.tape, drawn := W.drawn + 1, os := W.os, output := W.output } : World) := ⟨_, rfl⟩
    have bV : Below W.heap.size W V := by rw [hV']; exact (Below.refl _ _).drew
    have cD : Box V (s + 1) 25 #[v] ∧ Box V B1 27 (x.t.dat.cs x.a x.t.kids.length x.cap) := ⟨hb1.on bV hb1.lt, hq.on bV hq.lt⟩
    refine wpIn_region_plain hmx (by kernel_rfl) ?no (wpAny_of_Y (z := 5) (C := fun w' => Box w' (s + 1) 25 #[v] ∧ Box w' B1 27 (x.t.dat.cs x.a x.t.kids.length x.cap)) _ _ _ _ ?_)
    case no => exact fun ⟨a, w, h⟩ => h
    rw [← hV']
    clear hV'
    have hvl : ∃ av cv, v = .slice av m cv := owns_slice (unhide hor)
    obtain ⟨av, cv, rfl⟩ := hvl
    have cK : ∀ U, Below V.heap.size V U → Hid (Calls Try.prog 20 #[x.t.dat.v x.a x.t.kids.length x.cap] U fun e W' => (∃ a' c', e = .returned (x.t.dat.v a' x.t.kids.length c')) ∧ Below U.heap.size U W') := fun U hU => hide (copied_C s V x.a x.t.kids (hLx.sm (Sm.of_below (bV.mono (Nat.le_trans hsw hB.size)))) x.t.dat x.cap U (Sm.of_below (hU.mono (Nat.le_trans (Nat.le_trans hsw hB.size) bV.size))) (Nat.le_trans (Nat.le_trans (Nat.le_trans hsw hB.size) bV.size) hU.size))
    refine wpAnyY_reads 0 cD (by kernel_rfl) (by kernel_rfl) (by kernel_rfl) [5, 6, 7, 8] (by kernel_rfl) (by kernel_rfl) (by kernel_rfl) (by kernel_rfl) (fun d _ _ _ _ h => by cases d <;> exact h) (fun oi ho K hK => ?_)
    simp only [List.getElem?_toArray, List.getElem?_cons_zero, Option.some.injEq] at ho
    subst ho
    rw [if_pos (by kernel_rfl)]
    refine ⟨.slice av m cv, fun w' hw' => ?_, hK _ ?_⟩
    · obtain ⟨hu1, hu2⟩ := hw'
      obtain ⟨hp0, hp1⟩ := hu1.one
      obtain ⟨hc0, hc1, hc2, hc3, hc4, hc5, hc6⟩ := hu2.seven
      go_simp
    clear hK K
    refine wpAnyY_reads 1 cD (by kernel_rfl) (by kernel_rfl) (by kernel_rfl) [5, 6, 7, 8] (by kernel_rfl) (by kernel_rfl) (by kernel_rfl) (by kernel_rfl) (fun d _ _ _ _ h => by cases d <;> exact h) (fun oi ho K hK => ?_)
    simp only [List.getElem?_toArray, List.getElem?_cons_succ, List.getElem?_cons_zero, Option.some.injEq] at ho
    subst ho
    rw [if_pos (by kernel_rfl)]
    refine ⟨.agg (x.t.dat.cs x.a x.t.kids.length x.cap), fun w' hw' => ?_, hK _ ?_⟩
    · obtain ⟨hu1, hu2⟩ := hw'
      obtain ⟨hp0, hp1⟩ := hu1.one
      obtain ⟨hc0, hc1, hc2, hc3, hc4, hc5, hc6⟩ := hu2.seven
      go_simp
    clear hK K
    refine wpAnyY_reads 3 cD (by kernel_rfl) (by kernel_rfl) (by kernel_rfl) [5, 6, 7, 8] (by kernel_rfl) (by kernel_rfl) (by kernel_rfl) (by kernel_rfl) (fun d _ _ _ _ h => by cases d <;> exact h) (fun oi ho K hK => ?_)
    simp only [List.getElem?_toArray, List.getElem?_cons_succ, List.getElem?_cons_zero, Option.some.injEq] at ho
    subst ho
    rw [if_pos (by kernel_rfl)]
    refine ⟨.int .i64 m, fun w' hw' => ?_, hK _ ?_⟩
    · obtain ⟨hu1, hu2⟩ := hw'
      obtain ⟨hp0, hp1⟩ := hu1.one
      obtain ⟨hc0, hc1, hc2, hc3, hc4, hc5, hc6⟩ := hu2.seven
      go_simp
    clear hK K
    refine wpAnyY_two 2 4 (by kernel_rfl) (fun oi ho K hK => ?_) (fun oi ho K hK => ?_)
    · simp only [List.getElem?_toArray, List.getElem?_cons_succ, List.getElem?_cons_zero, Option.some.injEq] at ho
      subst ho
      go_simp
      refine (unhide (cK V (Below.refl _ _))).mono ?_
      rintro e u1 ⟨⟨a5, c5, rfl⟩, hb5⟩
      go_simp
      have c1 : Box u1 (s + 1) 25 #[.slice av m cv] ∧ Box u1 B1 27 (x.t.dat.cs x.a x.t.kids.length x.cap) := ⟨cD.1.on hb5 cD.1.lt, cD.2.on hb5 cD.2.lt⟩
      refine hK _ _ (.inr c1) ?_
      clear hK K
      refine wpAnyY_calls 4 (by kernel_rfl) (fun oi ho K hK => ?_)
      simp only [List.getElem?_toArray, List.getElem?_cons_succ, List.getElem?_cons_zero, Option.some.injEq] at ho
      subst ho
      go_simp
      have b2 : Below u1.heap.size u1 (u1.alloc (.cells #[.int .i64 0, .int .i64 0, .int .i64 0, .string ⟨#[]⟩, .string ⟨#[]⟩, .string ⟨#[]⟩, .slice none 0 0] 27)) := (Below.refl _ _).alloc (Nat.le_refl _) _
      refine hK _ _ (.inr ⟨c1.1.on b2 c1.1.lt, c1.2.on b2 c1.2.lt⟩) ?_
      clear hK K
      have hU : ∃ u nb, u = u1.alloc (.cells #[.int .i64 0, .int .i64 0, .int .i64 0, .string ⟨#[]⟩, .string ⟨#[]⟩, .string ⟨#[]⟩, .slice none 0 0] 27) ∧ nb = u1.heap.size ∧ Below V.heap.size V u ∧ Box u nb 27 #[.int .i64 0, .int .i64 0, .int .i64 0, .string ⟨#[]⟩, .string ⟨#[]⟩, .string ⟨#[]⟩, .slice none 0 0] := ⟨_, _, rfl, rfl, hb5.trans (b2.mono hb5.size), Box.new _ _ _⟩
      obtain ⟨u, nb, eu, enb, bu, hnb⟩ := hU
      rw [← eu, ← enb]
      clear eu enb b2 c1 hb5
      have hoU := hide (owns_below (owns_below (unhide hor) bV) bu)
      refine wpAnyY_calls 5 (by kernel_rfl) (fun oi ho K hK => ?_)
      simp only [List.getElem?_toArray, List.getElem?_cons_succ, List.getElem?_cons_zero, Option.some.injEq] at ho
      subst ho
      refine step_own u (by rfl) (.tmp 13) (.tmp 17) 25 (by rfl) (s + 3) 27 i0 zeroX 7 96 Try.underlying25 hi0 hz0 hz1 hz2 (by rfl) (by decide) (.slice av m cv) m xs ?q1 (unhide hoU) ⟨nb, 0, none⟩ 1 1 [.int .i64 0, .int .i64 0, .int .i64 0, .string ⟨#[]⟩, .string ⟨#[]⟩, .string ⟨#[]⟩, .slice none 0 0] ?q2 (by rfl) (news_box hnb) (by decide) (by unfold maxLen; omega) (by omega) (by have := bu.size; have := bV.size; omega) ?_
      case q1 => go_simp
      case q2 => go_simp
      intro v5 u5 ho5 hg5 hw5
      obtain ⟨g5, k5, rfl⟩ := ownsRow_succ ho5
      have b5 : Below s w u5 := (hB.trans ((bV.trans (bu.mono bV.size)).mono (Nat.le_trans hsw hB.size))).grown hg5 (by have := bV.size; have := bu.size; omega) (fun k e => by have := ((unhide hor).lt k e).1; omega)
      obtain ⟨hg3, hgl5⟩ := ho5.lt g5 rfl
      have cU : Box u (s + 1) 25 #[.slice av m cv] := (cD.1.on bu cD.1.lt)
      have c5' : Box u5 (s + 1) 25 #[.slice av m cv] := (hg5.block _ cU.lt (fun e => by have := ((unhide hor).lt _ e.symm).1; omega)).trans cU
      have b0u : Below W.heap.size W u := bV.trans (bu.mono bV.size)
      have hs5 : s + 3 ≤ u5.heap.size := by have := hg5.size; have := b0u.size; omega
      have hm0 : (0 : Int) ≤ m := by omega
      have hm1 : (m : Int) < (m : Int) + 1 := by omega
      replace ho5 := hide ho5
      refine hK _ _ (.inl (by kernel_rfl)) ?_
      clear hK K
      have hend : ∀ F : World, u5.heap.size ≤ F.heap.size → (∀ k, k ≠ s + 1 → k ≠ g5 → F.heap[k]? = u5.heap[k]?) → Box F (s + 1) 25 #[.slice (some ⟨g5, 0, none⟩) (m + 1) k5] → (∃ ys, F.ownsRow (s + 3) 27 7 (.slice (some ⟨g5, 0, none⟩) (m + 1) k5) (m + 1) ys) → Below s w F → Hid (KeepsFrom (s + 3) W F ∧ KeepX (NX s) (NG s) W F ∧ ∃ v xs, Box F (s + 1) 25 #[v] ∧ F.ownsRow (s + 3) 27 7 v (cntL ((pre ++ [x]).map Step.p)) xs ∧ Below s w F ∧ s + 3 ≤ F.heap.size) := fun F h1 h2 h3 ⟨ys, h4⟩ h5 => by
        obtain ⟨p1, p2⟩ := nodes_end hb1 (unhide hor) b0u hg5 hw5 h1 h2 h3 h4
        exact ⟨p1, p2, _, ys, h3, by rw [unhide hcn]; exact h4, h5, Nat.le_trans hs5 h1⟩
      refine wpAnyY_two 6 8 (by kernel_rfl) (fun oi ho K hK => ?_) (fun oi ho K hK => ?_)
      · simp only [List.getElem?_toArray, List.getElem?_cons_succ, List.getElem?_cons_zero, Option.some.injEq] at ho
        subst ho
        go_simp
        refine hK _ _ (.inl (by kernel_rfl)) ?_
        clear hK K
        refine wpAnyY_two 7 8 (by kernel_rfl) (fun oi ho K hK => ?_) (fun oi ho K hK => ?_)
        · simp only [List.getElem?_toArray, List.getElem?_cons_succ, List.getElem?_cons_zero, Option.some.injEq] at ho
          subst ho
          have hcz : ∀ i, i < 7 → ∃ q, u5.cell? ⟨g5, m * 7 + i, none⟩ = some q := fun i hi => by
            rw [(unhide ho5).cellAt (m * 7 + i) (by omega)]
            exact ⟨_, List.getElem?_eq_getElem (by rw [(unhide ho5).1]; omega)⟩
          have hfz5 := fun i => (unhide ho5).frozenAt i
          obtain ⟨u00, hd0⟩ := hcz 0 (by omega)
          obtain ⟨u01, hd1⟩ := hcz 1 (by omega)
          obtain ⟨u02, hd2⟩ := hcz 2 (by omega)
          obtain ⟨u03, hd3⟩ := hcz 3 (by omega)
          obtain ⟨u04, hd4⟩ := hcz 4 (by omega)
          obtain ⟨u05, hd5⟩ := hcz 5 (by omega)
          obtain ⟨u06, hd6⟩ := hcz 6 (by omega)
          have hg0 := hfz5 (m * 7)
          have hg1 := hfz5 (m * 7 + 1)
          have hg2 := hfz5 (m * 7 + 2)
          have hg3' := hfz5 (m * 7 + 3)
          have hg4 := hfz5 (m * 7 + 4)
          have hg5' := hfz5 (m * 7 + 5)
          have hg6 := hfz5 (m * 7 + 6)
          rw [Nat.add_zero] at hd0
          clear hcz hfz5
          go_simp
          obtain ⟨ys, ho7, -, -⟩ := put7_owns (unhide ho5) (m * 7) (.int .i64 x.t.dat.op) (.int .i64 x.t.dat.k) (.int .i64 x.t.dat.n) (.string x.t.dat.s.1) (.string x.t.dat.al.1) (.string x.t.dat.fd.1) (.slice a5 x.t.kids.length c5)
          have c7 := put7_box c5' g5 (m * 7) (.int .i64 x.t.dat.op) (.int .i64 x.t.dat.k) (.int .i64 x.t.dat.n) (.string x.t.dat.s.1) (.string x.t.dat.al.1) (.string x.t.dat.fd.1) (.slice a5 x.t.kids.length c5) (by omega)
          have b7 := put7_below b5 g5 (m * 7) (.int .i64 x.t.dat.op) (.int .i64 x.t.dat.k) (.int .i64 x.t.dat.n) (.string x.t.dat.s.1) (.string x.t.dat.al.1) (.string x.t.dat.fd.1) (.slice a5 x.t.kids.length c5) (by omega)
          have e7 := put7_size u5 g5 (m * 7) (.int .i64 x.t.dat.op) (.int .i64 x.t.dat.k) (.int .i64 x.t.dat.n) (.string x.t.dat.s.1) (.string x.t.dat.al.1) (.string x.t.dat.fd.1) (.slice a5 x.t.kids.length c5)
          have n7 : ∀ k, k ≠ g5 → (put7 u5 g5 (m * 7) (.int .i64 x.t.dat.op) (.int .i64 x.t.dat.k) (.int .i64 x.t.dat.n) (.string x.t.dat.s.1) (.string x.t.dat.al.1) (.string x.t.dat.fd.1) (.slice a5 x.t.kids.length c5)).heap[k]? = u5.heap[k]? := fun k hk => put7_block u5 g5 (m * 7) (.int .i64 x.t.dat.op) (.int .i64 x.t.dat.k) (.int .i64 x.t.dat.n) (.string x.t.dat.s.1) (.string x.t.dat.al.1) (.string x.t.dat.fd.1) (.slice a5 x.t.kids.length c5) hk
          obtain ⟨u7, hu7⟩ : ∃ u7, u7 = put7 u5 g5 (m * 7) (.int .i64 x.t.dat.op) (.int .i64 x.t.dat.k) (.int .i64 x.t.dat.n) (.string x.t.dat.s.1) (.string x.t.dat.al.1) (.string x.t.dat.fd.1) (.slice a5 x.t.kids.length c5) := ⟨_, rfl⟩
          rw [← hu7] at ho7 c7 b7 e7
          simp only [← hu7] at n7
          dsimp only [put7] at hu7
          rw [← hu7]
          clear hu7 hd0 hd1 hd2 hd3 hd4 hd5 hd6 hg0 hg1 hg2 hg3' hg4 hg5' hg6
          refine hK _ _ (.inl (by kernel_rfl)) ?_
          clear hK K
          obtain ⟨hr0, hf0⟩ := c7.one
          refine wpAnyY_calls 8 (by kernel_rfl) (fun oi ho K hK => ?_)
          simp only [List.getElem?_toArray, List.getElem?_cons_succ, List.getElem?_cons_zero, Option.some.injEq] at ho
          subst ho
          go_simp
          refine hK _ _ (.inl (by kernel_rfl)) ?_
          clear hK K
          have hE := hend _ (by simp [e7]) (fun k h1 h2 => (setCell_block u7 ⟨s + 1, 0, none⟩ _ (Ne.symm h1)).trans (n7 k h2)) (c7.set 0 _) ⟨_, owns_set ho7 ⟨s + 1, 0, none⟩ _ (by simp)⟩ (b7.setCell (p := ⟨s + 1, 0, none⟩) (by simp) _)
          clear hend
          refine wpAnyY_done (by kernel_rfl) ?_ _
          gi_wp2_with fail
          rw [e1]; exact unhide hE
        · simp only [List.getElem?_toArray, List.getElem?_cons_succ, List.getElem?_cons_zero, Option.some.injEq] at ho
          subst ho
          obtain ⟨hr0, hf0⟩ := c5'.one
          go_simp
          obtain ⟨u8, hu8⟩ : ∃ u8, u8 = u5.setCell ⟨s + 1, 0, none⟩ (.slice (some ⟨g5, 0, none⟩) (m + 1) k5) := ⟨_, rfl⟩
          have c8 : Box u8 (s + 1) 25 #[.slice (some ⟨g5, 0, none⟩) (m + 1) k5] := by rw [hu8]; exact c5'.set 0 _
          have b8 : Below s w u8 := by rw [hu8]; exact b5.setCell (p := ⟨s + 1, 0, none⟩) (by simp) _
          have ho8 : u8.ownsRow (s + 3) 27 7 (.slice (some ⟨g5, 0, none⟩) (m + 1) k5) (m + 1) (xs ++ [.int .i64 0, .int .i64 0, .int .i64 0, .string ⟨#[]⟩, .string ⟨#[]⟩, .string ⟨#[]⟩, .slice none 0 0]) := by rw [hu8]; exact owns_set (unhide ho5) ⟨s + 1, 0, none⟩ _ (by simp)
          have n8 : ∀ k, k ≠ s + 1 → u8.heap[k]? = u5.heap[k]? := fun k h1 => by rw [hu8]; exact setCell_block u5 ⟨s + 1, 0, none⟩ _ (Ne.symm h1)
          have e8 : u8.heap.size = u5.heap.size := by rw [hu8]; simp
          replace ho8 := hide ho8
          rw [← hu8]
          clear hu8 hr0 hf0
          refine hK _ _ (.inl (by kernel_rfl)) ?_
          clear hK K
          refine wpAnyY_calls 7 (by kernel_rfl) (fun oi ho K hK => ?_)
          simp only [List.getElem?_toArray, List.getElem?_cons_succ, List.getElem?_cons_zero, Option.some.injEq] at ho
          subst ho
          have hcz : ∀ i, i < 7 → ∃ q, u8.cell? ⟨g5, m * 7 + i, none⟩ = some q := fun i hi => by
            rw [(unhide ho8).cellAt (m * 7 + i) (by omega)]
            exact ⟨_, List.getElem?_eq_getElem (by rw [(unhide ho8).1]; omega)⟩
          have hfz5 := fun i => (unhide ho8).frozenAt i
          obtain ⟨u00, hd0⟩ := hcz 0 (by omega)
          obtain ⟨u01, hd1⟩ := hcz 1 (by omega)
          obtain ⟨u02, hd2⟩ := hcz 2 (by omega)
          obtain ⟨u03, hd3⟩ := hcz 3 (by omega)
          obtain ⟨u04, hd4⟩ := hcz 4 (by omega)
          obtain ⟨u05, hd5⟩ := hcz 5 (by omega)
          obtain ⟨u06, hd6⟩ := hcz 6 (by omega)
          have hg0 := hfz5 (m * 7)
          have hg1 := hfz5 (m * 7 + 1)
          have hg2 := hfz5 (m * 7 + 2)
          have hg3' := hfz5 (m * 7 + 3)
          have hg4 := hfz5 (m * 7 + 4)
          have hg5' := hfz5 (m * 7 + 5)
          have hg6 := hfz5 (m * 7 + 6)
          rw [Nat.add_zero] at hd0
          clear hcz hfz5
          go_simp
          obtain ⟨ys, ho7, -, -⟩ := put7_owns (unhide ho8) (m * 7) (.int .i64 x.t.dat.op) (.int .i64 x.t.dat.k) (.int .i64 x.t.dat.n) (.string x.t.dat.s.1) (.string x.t.dat.al.1) (.string x.t.dat.fd.1) (.slice a5 x.t.kids.length c5)
          have c7 := put7_box c8 g5 (m * 7) (.int .i64 x.t.dat.op) (.int .i64 x.t.dat.k) (.int .i64 x.t.dat.n) (.string x.t.dat.s.1) (.string x.t.dat.al.1) (.string x.t.dat.fd.1) (.slice a5 x.t.kids.length c5) (by omega)
          have b7 := put7_below b8 g5 (m * 7) (.int .i64 x.t.dat.op) (.int .i64 x.t.dat.k) (.int .i64 x.t.dat.n) (.string x.t.dat.s.1) (.string x.t.dat.al.1) (.string x.t.dat.fd.1) (.slice a5 x.t.kids.length c5) (by omega)
          have e7 := put7_size u8 g5 (m * 7) (.int .i64 x.t.dat.op) (.int .i64 x.t.dat.k) (.int .i64 x.t.dat.n) (.string x.t.dat.s.1) (.string x.t.dat.al.1) (.string x.t.dat.fd.1) (.slice a5 x.t.kids.length c5)
          have n7 : ∀ k, k ≠ g5 → (put7 u8 g5 (m * 7) (.int .i64 x.t.dat.op) (.int .i64 x.t.dat.k) (.int .i64 x.t.dat.n) (.string x.t.dat.s.1) (.string x.t.dat.al.1) (.string x.t.dat.fd.1) (.slice a5 x.t.kids.length c5)).heap[k]? = u8.heap[k]? := fun k hk => put7_block u8 g5 (m * 7) (.int .i64 x.t.dat.op) (.int .i64 x.t.dat.k) (.int .i64 x.t.dat.n) (.string x.t.dat.s.1) (.string x.t.dat.al.1) (.string x.t.dat.fd.1) (.slice a5 x.t.kids.length c5) hk
          obtain ⟨u7, hu7⟩ : ∃ u7, u7 = put7 u8 g5 (m * 7) (.int .i64 x.t.dat.op) (.int .i64 x.t.dat.k) (.int .i64 x.t.dat.n) (.string x.t.dat.s.1) (.string x.t.dat.al.1) (.string x.t.dat.fd.1) (.slice a5 x.t.kids.length c5) := ⟨_, rfl⟩
          rw [← hu7] at ho7 c7 b7 e7
          simp only [← hu7] at n7
          dsimp only [put7] at hu7
          rw [← hu7]
          clear hu7 hd0 hd1 hd2 hd3 hd4 hd5 hd6 hg0 hg1 hg2 hg3' hg4 hg5' hg6
          refine hK _ _ (.inl (by kernel_rfl)) ?_
          clear hK K
          have hE := hend u7 (by omega) (fun k h1 h2 => (n7 k h2).trans (n8 k h1)) c7 ⟨_, ho7⟩ b7
          clear hend
          refine wpAnyY_done (by kernel_rfl) ?_ _
          gi_wp2_with fail
          rw [e1]; exact unhide hE
      · simp only [List.getElem?_toArray, List.getElem?_cons_succ, List.getElem?_cons_zero, Option.some.injEq] at ho
        subst ho
        obtain ⟨hr0, hf0⟩ := c5'.one
        go_simp
        obtain ⟨u8, hu8⟩ : ∃ u8, u8 = u5.setCell ⟨s + 1, 0, none⟩ (.slice (some ⟨g5, 0, none⟩) (m + 1) k5) := ⟨_, rfl⟩
        have c8 : Box u8 (s + 1) 25 #[.slice (some ⟨g5, 0, none⟩) (m + 1) k5] := by rw [hu8]; exact c5'.set 0 _
        have b8 : Below s w u8 := by rw [hu8]; exact b5.setCell (p := ⟨s + 1, 0, none⟩) (by simp) _
        have ho8 : u8.ownsRow (s + 3) 27 7 (.slice (some ⟨g5, 0, none⟩) (m + 1) k5) (m + 1) (xs ++ [.int .i64 0, .int .i64 0, .int .i64 0, .string ⟨#[]⟩, .string ⟨#[]⟩, .string ⟨#[]⟩, .slice none 0 0]) := by rw [hu8]; exact owns_set (unhide ho5) ⟨s + 1, 0, none⟩ _ (by simp)
        have n8 : ∀ k, k ≠ s + 1 → u8.heap[k]? = u5.heap[k]? := fun k h1 => by rw [hu8]; exact setCell_block u5 ⟨s + 1, 0, none⟩ _ (Ne.symm h1)
        have e8 : u8.heap.size = u5.heap.size := by rw [hu8]; simp
        replace ho8 := hide ho8
        rw [← hu8]
        clear hu8 hr0 hf0
        refine hK _ _ (.inl (by kernel_rfl)) ?_
        clear hK K
        refine wpAnyY_calls 6 (by kernel_rfl) (fun oi ho K hK => ?_)
        simp only [List.getElem?_toArray, List.getElem?_cons_succ, List.getElem?_cons_zero, Option.some.injEq] at ho
        subst ho
        go_simp
        refine hK _ _ (.inl (by kernel_rfl)) ?_
        clear hK K
        refine wpAnyY_calls 7 (by kernel_rfl) (fun oi ho K hK => ?_)
        simp only [List.getElem?_toArray, List.getElem?_cons_succ, List.getElem?_cons_zero, Option.some.injEq] at ho
        subst ho
        have hcz : ∀ i, i < 7 → ∃ q, u8.cell? ⟨g5, m * 7 + i, none⟩ = some q := fun i hi => by
          rw [(unhide ho8).cellAt (m * 7 + i) (by omega)]
          exact ⟨_, List.getElem?_eq_getElem (by rw [(unhide ho8).1]; omega)⟩
        have hfz5 := fun i => (unhide ho8).frozenAt i
        obtain ⟨u00, hd0⟩ := hcz 0 (by omega)
        obtain ⟨u01, hd1⟩ := hcz 1 (by omega)
        obtain ⟨u02, hd2⟩ := hcz 2 (by omega)
        obtain ⟨u03, hd3⟩ := hcz 3 (by omega)
        obtain ⟨u04, hd4⟩ := hcz 4 (by omega)
        obtain ⟨u05, hd5⟩ := hcz 5 (by omega)
        obtain ⟨u06, hd6⟩ := hcz 6 (by omega)
        have hg0 := hfz5 (m * 7)
        have hg1 := hfz5 (m * 7 + 1)
        have hg2 := hfz5 (m * 7 + 2)
        have hg3' := hfz5 (m * 7 + 3)
        have hg4 := hfz5 (m * 7 + 4)
        have hg5' := hfz5 (m * 7 + 5)
        have hg6 := hfz5 (m * 7 + 6)
        rw [Nat.add_zero] at hd0
        clear hcz hfz5
        go_simp
        obtain ⟨ys, ho7, -, -⟩ := put7_owns (unhide ho8) (m * 7) (.int .i64 x.t.dat.op) (.int .i64 x.t.dat.k) (.int .i64 x.t.dat.n) (.string x.t.dat.s.1) (.string x.t.dat.al.1) (.string x.t.dat.fd.1) (.slice a5 x.t.kids.length c5)
        have c7 := put7_box c8 g5 (m * 7) (.int .i64 x.t.dat.op) (.int .i64 x.t.dat.k) (.int .i64 x.t.dat.n) (.string x.t.dat.s.1) (.string x.t.dat.al.1) (.string x.t.dat.fd.1) (.slice a5 x.t.kids.length c5) (by omega)
        have b7 := put7_below b8 g5 (m * 7) (.int .i64 x.t.dat.op) (.int .i64 x.t.dat.k) (.int .i64 x.t.dat.n) (.string x.t.dat.s.1) (.string x.t.dat.al.1) (.string x.t.dat.fd.1) (.slice a5 x.t.kids.length c5) (by omega)
        have e7 := put7_size u8 g5 (m * 7) (.int .i64 x.t.dat.op) (.int .i64 x.t.dat.k) (.int .i64 x.t.dat.n) (.string x.t.dat.s.1) (.string x.t.dat.al.1) (.string x.t.dat.fd.1) (.slice a5 x.t.kids.length c5)
        have n7 : ∀ k, k ≠ g5 → (put7 u8 g5 (m * 7) (.int .i64 x.t.dat.op) (.int .i64 x.t.dat.k) (.int .i64 x.t.dat.n) (.string x.t.dat.s.1) (.string x.t.dat.al.1) (.string x.t.dat.fd.1) (.slice a5 x.t.kids.length c5)).heap[k]? = u8.heap[k]? := fun k hk => put7_block u8 g5 (m * 7) (.int .i64 x.t.dat.op) (.int .i64 x.t.dat.k) (.int .i64 x.t.dat.n) (.string x.t.dat.s.1) (.string x.t.dat.al.1) (.string x.t.dat.fd.1) (.slice a5 x.t.kids.length c5) hk
        obtain ⟨u7, hu7⟩ : ∃ u7, u7 = put7 u8 g5 (m * 7) (.int .i64 x.t.dat.op) (.int .i64 x.t.dat.k) (.int .i64 x.t.dat.n) (.string x.t.dat.s.1) (.string x.t.dat.al.1) (.string x.t.dat.fd.1) (.slice a5 x.t.kids.length c5) := ⟨_, rfl⟩
        rw [← hu7] at ho7 c7 b7 e7
        simp only [← hu7] at n7
        dsimp only [put7] at hu7
        rw [← hu7]
        clear hu7 hd0 hd1 hd2 hd3 hd4 hd5 hd6 hg0 hg1 hg2 hg3' hg4 hg5' hg6
        refine hK _ _ (.inl (by kernel_rfl)) ?_
        clear hK K
        have hE := hend u7 (by omega) (fun k h1 h2 => (n7 k h2).trans (n8 k h1)) c7 ⟨_, ho7⟩ b7
        clear hend
        refine wpAnyY_done (by kernel_rfl) ?_ _
        gi_wp2_with fail
        rw [e1]; exact unhide hE

    · simp only [List.getElem?_toArray, List.getElem?_cons_succ, List.getElem?_cons_zero, Option.some.injEq] at ho
      subst ho
      go_simp
      have b2 : Below V.heap.size V (V.alloc (.cells #[.int .i64 0, .int .i64 0, .int .i64 0, .string ⟨#[]⟩, .string ⟨#[]⟩, .string ⟨#[]⟩, .slice none 0 0] 27)) := (Below.refl _ _).alloc (Nat.le_refl _) _
      have c1 : Box (V.alloc (.cells #[.int .i64 0, .int .i64 0, .int .i64 0, .string ⟨#[]⟩, .string ⟨#[]⟩, .string ⟨#[]⟩, .slice none 0 0] 27)) (s + 1) 25 #[.slice av m cv] ∧ Box (V.alloc (.cells #[.int .i64 0, .int .i64 0, .int .i64 0, .string ⟨#[]⟩, .string ⟨#[]⟩, .string ⟨#[]⟩, .slice none 0 0] 27)) B1 27 (x.t.dat.cs x.a x.t.kids.length x.cap) := ⟨cD.1.on b2 cD.1.lt, cD.2.on b2 cD.2.lt⟩
      refine hK _ _ (.inr c1) ?_
      clear hK K
      have hnb0 : Box (V.alloc (.cells #[.int .i64 0, .int .i64 0, .int .i64 0, .string ⟨#[]⟩, .string ⟨#[]⟩, .string ⟨#[]⟩, .slice none 0 0] 27)) V.heap.size 27 #[.int .i64 0, .int .i64 0, .int .i64 0, .string ⟨#[]⟩, .string ⟨#[]⟩, .string ⟨#[]⟩, .slice none 0 0] := Box.new _ _ _
      obtain ⟨u1, eu⟩ : ∃ u1, u1 = V.alloc (.cells #[.int .i64 0, .int .i64 0, .int .i64 0, .string ⟨#[]⟩, .string ⟨#[]⟩, .string ⟨#[]⟩, .slice none 0 0] 27) := ⟨_, rfl⟩
      rw [← eu] at b2 c1 hnb0 ⊢
      clear eu
      refine wpAnyY_calls 2 (by kernel_rfl) (fun oi ho K hK => ?_)
      simp only [List.getElem?_toArray, List.getElem?_cons_succ, List.getElem?_cons_zero, Option.some.injEq] at ho
      subst ho
      go_simp
      refine (unhide (cK u1 (b2))).mono ?_
      rintro e u ⟨⟨a5, c5, rfl⟩, hb5⟩
      go_simp
      refine hK _ _ (.inr ⟨c1.1.on hb5 c1.1.lt, c1.2.on hb5 c1.2.lt⟩) ?_
      clear hK K
      have bu : Below V.heap.size V u := b2.trans (hb5.mono b2.size)
      have hnb := hnb0.on hb5 hnb0.lt
      obtain ⟨nb, enb⟩ : ∃ nb, nb = V.heap.size := ⟨_, rfl⟩
      rw [← enb] at hnb ⊢
      clear enb b2 c1 hb5 hnb0
      have hoU := hide (owns_below (owns_below (unhide hor) bV) bu)
      refine wpAnyY_calls 5 (by kernel_rfl) (fun oi ho K hK => ?_)
      simp only [List.getElem?_toArray, List.getElem?_cons_succ, List.getElem?_cons_zero, Option.some.injEq] at ho
      subst ho
      refine step_own u (by rfl) (.tmp 13) (.tmp 17) 25 (by rfl) (s + 3) 27 i0 zeroX 7 96 Try.underlying25 hi0 hz0 hz1 hz2 (by rfl) (by decide) (.slice av m cv) m xs ?q1 (unhide hoU) ⟨nb, 0, none⟩ 1 1 [.int .i64 0, .int .i64 0, .int .i64 0, .string ⟨#[]⟩, .string ⟨#[]⟩, .string ⟨#[]⟩, .slice none 0 0] ?q2 (by rfl) (news_box hnb) (by decide) (by unfold maxLen; omega) (by omega) (by have := bu.size; have := bV.size; omega) ?_
      case q1 => go_simp
      case q2 => go_simp
      intro v5 u5 ho5 hg5 hw5
      obtain ⟨g5, k5, rfl⟩ := ownsRow_succ ho5
      have b5 : Below s w u5 := (hB.trans ((bV.trans (bu.mono bV.size)).mono (Nat.le_trans hsw hB.size))).grown hg5 (by have := bV.size; have := bu.size; omega) (fun k e => by have := ((unhide hor).lt k e).1; omega)
      obtain ⟨hg3, hgl5⟩ := ho5.lt g5 rfl
      have cU : Box u (s + 1) 25 #[.slice av m cv] := (cD.1.on bu cD.1.lt)
      have c5' : Box u5 (s + 1) 25 #[.slice av m cv] := (hg5.block _ cU.lt (fun e => by have := ((unhide hor).lt _ e.symm).1; omega)).trans cU
      have b0u : Below W.heap.size W u := bV.trans (bu.mono bV.size)
      have hs5 : s + 3 ≤ u5.heap.size := by have := hg5.size; have := b0u.size; omega
      have hm0 : (0 : Int) ≤ m := by omega
      have hm1 : (m : Int) < (m : Int) + 1 := by omega
      replace ho5 := hide ho5
      refine hK _ _ (.inl (by kernel_rfl)) ?_
      clear hK K
      have hend : ∀ F : World, u5.heap.size ≤ F.heap.size → (∀ k, k ≠ s + 1 → k ≠ g5 → F.heap[k]? = u5.heap[k]?) → Box F (s + 1) 25 #[.slice (some ⟨g5, 0, none⟩) (m + 1) k5] → (∃ ys, F.ownsRow (s + 3) 27 7 (.slice (some ⟨g5, 0, none⟩) (m + 1) k5) (m + 1) ys) → Below s w F → Hid (KeepsFrom (s + 3) W F ∧ KeepX (NX s) (NG s) W F ∧ ∃ v xs, Box F (s + 1) 25 #[v] ∧ F.ownsRow (s + 3) 27 7 v (cntL ((pre ++ [x]).map Step.p)) xs ∧ Below s w F ∧ s + 3 ≤ F.heap.size) := fun F h1 h2 h3 ⟨ys, h4⟩ h5 => by
        obtain ⟨p1, p2⟩ := nodes_end hb1 (unhide hor) b0u hg5 hw5 h1 h2 h3 h4
        exact ⟨p1, p2, _, ys, h3, by rw [unhide hcn]; exact h4, h5, Nat.le_trans hs5 h1⟩
      refine wpAnyY_two 6 8 (by kernel_rfl) (fun oi ho K hK => ?_) (fun oi ho K hK => ?_)
      · simp only [List.getElem?_toArray, List.getElem?_cons_succ, List.getElem?_cons_zero, Option.some.injEq] at ho
        subst ho
        go_simp
        refine hK _ _ (.inl (by kernel_rfl)) ?_
        clear hK K
        refine wpAnyY_two 7 8 (by kernel_rfl) (fun oi ho K hK => ?_) (fun oi ho K hK => ?_)
        · simp only [List.getElem?_toArray, List.getElem?_cons_succ, List.getElem?_cons_zero, Option.some.injEq] at ho
          subst ho
          have hcz : ∀ i, i < 7 → ∃ q, u5.cell? ⟨g5, m * 7 + i, none⟩ = some q := fun i hi => by
            rw [(unhide ho5).cellAt (m * 7 + i) (by omega)]
            exact ⟨_, List.getElem?_eq_getElem (by rw [(unhide ho5).1]; omega)⟩
          have hfz5 := fun i => (unhide ho5).frozenAt i
          obtain ⟨u00, hd0⟩ := hcz 0 (by omega)
          obtain ⟨u01, hd1⟩ := hcz 1 (by omega)
          obtain ⟨u02, hd2⟩ := hcz 2 (by omega)
          obtain ⟨u03, hd3⟩ := hcz 3 (by omega)
          obtain ⟨u04, hd4⟩ := hcz 4 (by omega)
          obtain ⟨u05, hd5⟩ := hcz 5 (by omega)
          obtain ⟨u06, hd6⟩ := hcz 6 (by omega)
          have hg0 := hfz5 (m * 7)
          have hg1 := hfz5 (m * 7 + 1)
          have hg2 := hfz5 (m * 7 + 2)
          have hg3' := hfz5 (m * 7 + 3)
          have hg4 := hfz5 (m * 7 + 4)
          have hg5' := hfz5 (m * 7 + 5)
          have hg6 := hfz5 (m * 7 + 6)
          rw [Nat.add_zero] at hd0
          clear hcz hfz5
          go_simp
          obtain ⟨ys, ho7, -, -⟩ := put7_owns (unhide ho5) (m * 7) (.int .i64 x.t.dat.op) (.int .i64 x.t.dat.k) (.int .i64 x.t.dat.n) (.string x.t.dat.s.1) (.string x.t.dat.al.1) (.string x.t.dat.fd.1) (.slice a5 x.t.kids.length c5)
          have c7 := put7_box c5' g5 (m * 7) (.int .i64 x.t.dat.op) (.int .i64 x.t.dat.k) (.int .i64 x.t.dat.n) (.string x.t.dat.s.1) (.string x.t.dat.al.1) (.string x.t.dat.fd.1) (.slice a5 x.t.kids.length c5) (by omega)
          have b7 := put7_below b5 g5 (m * 7) (.int .i64 x.t.dat.op) (.int .i64 x.t.dat.k) (.int .i64 x.t.dat.n) (.string x.t.dat.s.1) (.string x.t.dat.al.1) (.string x.t.dat.fd.1) (.slice a5 x.t.kids.length c5) (by omega)
          have e7 := put7_size u5 g5 (m * 7) (.int .i64 x.t.dat.op) (.int .i64 x.t.dat.k) (.int .i64 x.t.dat.n) (.string x.t.dat.s.1) (.string x.t.dat.al.1) (.string x.t.dat.fd.1) (.slice a5 x.t.kids.length c5)
          have n7 : ∀ k, k ≠ g5 → (put7 u5 g5 (m * 7) (.int .i64 x.t.dat.op) (.int .i64 x.t.dat.k) (.int .i64 x.t.dat.n) (.string x.t.dat.s.1) (.string x.t.dat.al.1) (.string x.t.dat.fd.1) (.slice a5 x.t.kids.length c5)).heap[k]? = u5.heap[k]? := fun k hk => put7_block u5 g5 (m * 7) (.int .i64 x.t.dat.op) (.int .i64 x.t.dat.k) (.int .i64 x.t.dat.n) (.string x.t.dat.s.1) (.string x.t.dat.al.1) (.string x.t.dat.fd.1) (.slice a5 x.t.kids.length c5) hk
          obtain ⟨u7, hu7⟩ : ∃ u7, u7 = put7 u5 g5 (m * 7) (.int .i64 x.t.dat.op) (.int .i64 x.t.dat.k) (.int .i64 x.t.dat.n) (.string x.t.dat.s.1) (.string x.t.dat.al.1) (.string x.t.dat.fd.1) (.slice a5 x.t.kids.length c5) := ⟨_, rfl⟩
          rw [← hu7] at ho7 c7 b7 e7
          simp only [← hu7] at n7
          dsimp only [put7] at hu7
          rw [← hu7]
          clear hu7 hd0 hd1 hd2 hd3 hd4 hd5 hd6 hg0 hg1 hg2 hg3' hg4 hg5' hg6
          refine hK _ _ (.inl (by kernel_rfl)) ?_
          clear hK K
          obtain ⟨hr0, hf0⟩ := c7.one
          refine wpAnyY_calls 8 (by kernel_rfl) (fun oi ho K hK => ?_)
          simp only [List.getElem?_toArray, List.getElem?_cons_succ, List.getElem?_cons_zero, Option.some.injEq] at ho
          subst ho
          go_simp
          refine hK _ _ (.inl (by kernel_rfl)) ?_
          clear hK K
          have hE := hend _ (by simp [e7]) (fun k h1 h2 => (setCell_block u7 ⟨s + 1, 0, none⟩ _ (Ne.symm h1)).trans (n7 k h2)) (c7.set 0 _) ⟨_, owns_set ho7 ⟨s + 1, 0, none⟩ _ (by simp)⟩ (b7.setCell (p := ⟨s + 1, 0, none⟩) (by simp) _)
          clear hend
          refine wpAnyY_done (by kernel_rfl) ?_ _
          gi_wp2_with fail
          rw [e1]; exact unhide hE
        · simp only [List.getElem?_toArray, List.getElem?_cons_succ, List.getElem?_cons_zero, Option.some.injEq] at ho
          subst ho
          obtain ⟨hr0, hf0⟩ := c5'.one
          go_simp
          obtain ⟨u8, hu8⟩ : ∃ u8, u8 = u5.setCell ⟨s + 1, 0, none⟩ (.slice (some ⟨g5, 0, none⟩) (m + 1) k5) := ⟨_, rfl⟩
          have c8 : Box u8 (s + 1) 25 #[.slice (some ⟨g5, 0, none⟩) (m + 1) k5] := by rw [hu8]; exact c5'.set 0 _
          have b8 : Below s w u8 := by rw [hu8]; exact b5.setCell (p := ⟨s + 1, 0, none⟩) (by simp) _
          have ho8 : u8.ownsRow (s + 3) 27 7 (.slice (some ⟨g5, 0, none⟩) (m + 1) k5) (m + 1) (xs ++ [.int .i64 0, .int .i64 0, .int .i64 0, .string ⟨#[]⟩, .string ⟨#[]⟩, .string ⟨#[]⟩, .slice none 0 0]) := by rw [hu8]; exact owns_set (unhide ho5) ⟨s + 1, 0, none⟩ _ (by simp)
          have n8 : ∀ k, k ≠ s + 1 → u8.heap[k]? = u5.heap[k]? := fun k h1 => by rw [hu8]; exact setCell_block u5 ⟨s + 1, 0, none⟩ _ (Ne.symm h1)
          have e8 : u8.heap.size = u5.heap.size := by rw [hu8]; simp
          replace ho8 := hide ho8
          rw [← hu8]
          clear hu8 hr0 hf0
          refine hK _ _ (.inl (by kernel_rfl)) ?_
          clear hK K
          refine wpAnyY_calls 7 (by kernel_rfl) (fun oi ho K hK => ?_)
          simp only [List.getElem?_toArray, List.getElem?_cons_succ, List.getElem?_cons_zero, Option.some.injEq] at ho
          subst ho
          have hcz : ∀ i, i < 7 → ∃ q, u8.cell? ⟨g5, m * 7 + i, none⟩ = some q := fun i hi => by
            rw [(unhide ho8).cellAt (m * 7 + i) (by omega)]
            exact ⟨_, List.getElem?_eq_getElem (by rw [(unhide ho8).1]; omega)⟩
          have hfz5 := fun i => (unhide ho8).frozenAt i
          obtain ⟨u00, hd0⟩ := hcz 0 (by omega)
          obtain ⟨u01, hd1⟩ := hcz 1 (by omega)
          obtain ⟨u02, hd2⟩ := hcz 2 (by omega)
          obtain ⟨u03, hd3⟩ := hcz 3 (by omega)
          obtain ⟨u04, hd4⟩ := hcz 4 (by omega)
          obtain ⟨u05, hd5⟩ := hcz 5 (by omega)
          obtain ⟨u06, hd6⟩ := hcz 6 (by omega)
          have hg0 := hfz5 (m * 7)
          have hg1 := hfz5 (m * 7 + 1)
          have hg2 := hfz5 (m * 7 + 2)
          have hg3' := hfz5 (m * 7 + 3)
          have hg4 := hfz5 (m * 7 + 4)
          have hg5' := hfz5 (m * 7 + 5)
          have hg6 := hfz5 (m * 7 + 6)
          rw [Nat.add_zero] at hd0
          clear hcz hfz5
          go_simp
          obtain ⟨ys, ho7, -, -⟩ := put7_owns (unhide ho8) (m * 7) (.int .i64 x.t.dat.op) (.int .i64 x.t.dat.k) (.int .i64 x.t.dat.n) (.string x.t.dat.s.1) (.string x.t.dat.al.1) (.string x.t.dat.fd.1) (.slice a5 x.t.kids.length c5)
          have c7 := put7_box c8 g5 (m * 7) (.int .i64 x.t.dat.op) (.int .i64 x.t.dat.k) (.int .i64 x.t.dat.n) (.string x.t.dat.s.1) (.string x.t.dat.al.1) (.string x.t.dat.fd.1) (.slice a5 x.t.kids.length c5) (by omega)
          have b7 := put7_below b8 g5 (m * 7) (.int .i64 x.t.dat.op) (.int .i64 x.t.dat.k) (.int .i64 x.t.dat.n) (.string x.t.dat.s.1) (.string x.t.dat.al.1) (.string x.t.dat.fd.1) (.slice a5 x.t.kids.length c5) (by omega)
          have e7 := put7_size u8 g5 (m * 7) (.int .i64 x.t.dat.op) (.int .i64 x.t.dat.k) (.int .i64 x.t.dat.n) (.string x.t.dat.s.1) (.string x.t.dat.al.1) (.string x.t.dat.fd.1) (.slice a5 x.t.kids.length c5)
          have n7 : ∀ k, k ≠ g5 → (put7 u8 g5 (m * 7) (.int .i64 x.t.dat.op) (.int .i64 x.t.dat.k) (.int .i64 x.t.dat.n) (.string x.t.dat.s.1) (.string x.t.dat.al.1) (.string x.t.dat.fd.1) (.slice a5 x.t.kids.length c5)).heap[k]? = u8.heap[k]? := fun k hk => put7_block u8 g5 (m * 7) (.int .i64 x.t.dat.op) (.int .i64 x.t.dat.k) (.int .i64 x.t.dat.n) (.string x.t.dat.s.1) (.string x.t.dat.al.1) (.string x.t.dat.fd.1) (.slice a5 x.t.kids.length c5) hk
          obtain ⟨u7, hu7⟩ : ∃ u7, u7 = put7 u8 g5 (m * 7) (.int .i64 x.t.dat.op) (.int .i64 x.t.dat.k) (.int .i64 x.t.dat.n) (.string x.t.dat.s.1) (.string x.t.dat.al.1) (.string x.t.dat.fd.1) (.slice a5 x.t.kids.length c5) := ⟨_, rfl⟩
          rw [← hu7] at ho7 c7 b7 e7
          simp only [← hu7] at n7
          dsimp only [put7] at hu7
          rw [← hu7]
          clear hu7 hd0 hd1 hd2 hd3 hd4 hd5 hd6 hg0 hg1 hg2 hg3' hg4 hg5' hg6
          refine hK _ _ (.inl (by kernel_rfl)) ?_
          clear hK K
          have hE := hend u7 (by omega) (fun k h1 h2 => (n7 k h2).trans (n8 k h1)) c7 ⟨_, ho7⟩ b7
          clear hend
          refine wpAnyY_done (by kernel_rfl) ?_ _
          gi_wp2_with fail
          rw [e1]; exact unhide hE
      · simp only [List.getElem?_toArray, List.getElem?_cons_succ, List.getElem?_cons_zero, Option.some.injEq] at ho
        subst ho
        obtain ⟨hr0, hf0⟩ := c5'.one
        go_simp
        obtain ⟨u8, hu8⟩ : ∃ u8, u8 = u5.setCell ⟨s + 1, 0, none⟩ (.slice (some ⟨g5, 0, none⟩) (m + 1) k5) := ⟨_, rfl⟩
        have c8 : Box u8 (s + 1) 25 #[.slice (some ⟨g5, 0, none⟩) (m + 1) k5] := by rw [hu8]; exact c5'.set 0 _
        have b8 : Below s w u8 := by rw [hu8]; exact b5.setCell (p := ⟨s + 1, 0, none⟩) (by simp) _
        have ho8 : u8.ownsRow (s + 3) 27 7 (.slice (some ⟨g5, 0, none⟩) (m + 1) k5) (m + 1) (xs ++ [.int .i64 0, .int .i64 0, .int .i64 0, .string ⟨#[]⟩, .string ⟨#[]⟩, .string ⟨#[]⟩, .slice none 0 0]) := by rw [hu8]; exact owns_set (unhide ho5) ⟨s + 1, 0, none⟩ _ (by simp)
        have n8 : ∀ k, k ≠ s + 1 → u8.heap[k]? = u5.heap[k]? := fun k h1 => by rw [hu8]; exact setCell_block u5 ⟨s + 1, 0, none⟩ _ (Ne.symm h1)
        have e8 : u8.heap.size = u5.heap.size := by rw [hu8]; simp
        replace ho8 := hide ho8
        rw [← hu8]
        clear hu8 hr0 hf0
        refine hK _ _ (.inl (by kernel_rfl)) ?_
        clear hK K
        refine wpAnyY_calls 6 (by kernel_rfl) (fun oi ho K hK => ?_)
        simp only [List.getElem?_toArray, List.getElem?_cons_succ, List.getElem?_cons_zero, Option.some.injEq] at ho
        subst ho
        go_simp
        refine hK _ _ (.inl (by kernel_rfl)) ?_
        clear hK K
        refine wpAnyY_calls 7 (by kernel_rfl) (fun oi ho K hK => ?_)
        simp only [List.getElem?_toArray, List.getElem?_cons_succ, List.getElem?_cons_zero, Option.some.injEq] at ho
        subst ho
        have hcz : ∀ i, i < 7 → ∃ q, u8.cell? ⟨g5, m * 7 + i, none⟩ = some q := fun i hi => by
          rw [(unhide ho8).cellAt (m * 7 + i) (by omega)]
          exact ⟨_, List.getElem?_eq_getElem (by rw [(unhide ho8).1]; omega)⟩
        have hfz5 := fun i => (unhide ho8).frozenAt i
        obtain ⟨u00, hd0⟩ := hcz 0 (by omega)
        obtain ⟨u01, hd1⟩ := hcz 1 (by omega)
        obtain ⟨u02, hd2⟩ := hcz 2 (by omega)
        obtain ⟨u03, hd3⟩ := hcz 3 (by omega)
        obtain ⟨u04, hd4⟩ := hcz 4 (by omega)
        obtain ⟨u05, hd5⟩ := hcz 5 (by omega)
        obtain ⟨u06, hd6⟩ := hcz 6 (by omega)
        have hg0 := hfz5 (m * 7)
        have hg1 := hfz5 (m * 7 + 1)
        have hg2 := hfz5 (m * 7 + 2)
        have hg3' := hfz5 (m * 7 + 3)
        have hg4 := hfz5 (m * 7 + 4)
        have hg5' := hfz5 (m * 7 + 5)
        have hg6 := hfz5 (m * 7 + 6)
        rw [Nat.add_zero] at hd0
        clear hcz hfz5
        go_simp
        obtain ⟨ys, ho7, -, -⟩ := put7_owns (unhide ho8) (m * 7) (.int .i64 x.t.dat.op) (.int .i64 x.t.dat.k) (.int .i64 x.t.dat.n) (.string x.t.dat.s.1) (.string x.t.dat.al.1) (.string x.t.dat.fd.1) (.slice a5 x.t.kids.length c5)
        have c7 := put7_box c8 g5 (m * 7) (.int .i64 x.t.dat.op) (.int .i64 x.t.dat.k) (.int .i64 x.t.dat.n) (.string x.t.dat.s.1) (.string x.t.dat.al.1) (.string x.t.dat.fd.1) (.slice a5 x.t.kids.length c5) (by omega)
        have b7 := put7_below b8 g5 (m * 7) (.int .i64 x.t.dat.op) (.int .i64 x.t.dat.k) (.int .i64 x.t.dat.n) (.string x.t.dat.s.1) (.string x.t.dat.al.1) (.string x.t.dat.fd.1) (.slice a5 x.t.kids.length c5) (by omega)
        have e7 := put7_size u8 g5 (m * 7) (.int .i64 x.t.dat.op) (.int .i64 x.t.dat.k) (.int .i64 x.t.dat.n) (.string x.t.dat.s.1) (.string x.t.dat.al.1) (.string x.t.dat.fd.1) (.slice a5 x.t.kids.length c5)
        have n7 : ∀ k, k ≠ g5 → (put7 u8 g5 (m * 7) (.int .i64 x.t.dat.op) (.int .i64 x.t.dat.k) (.int .i64 x.t.dat.n) (.string x.t.dat.s.1) (.string x.t.dat.al.1) (.string x.t.dat.fd.1) (.slice a5 x.t.kids.length c5)).heap[k]? = u8.heap[k]? := fun k hk => put7_block u8 g5 (m * 7) (.int .i64 x.t.dat.op) (.int .i64 x.t.dat.k) (.int .i64 x.t.dat.n) (.string x.t.dat.s.1) (.string x.t.dat.al.1) (.string x.t.dat.fd.1) (.slice a5 x.t.kids.length c5) hk
        obtain ⟨u7, hu7⟩ : ∃ u7, u7 = put7 u8 g5 (m * 7) (.int .i64 x.t.dat.op) (.int .i64 x.t.dat.k) (.int .i64 x.t.dat.n) (.string x.t.dat.s.1) (.string x.t.dat.al.1) (.string x.t.dat.fd.1) (.slice a5 x.t.kids.length c5) := ⟨_, rfl⟩
        rw [← hu7] at ho7 c7 b7 e7
        simp only [← hu7] at n7
        dsimp only [put7] at hu7
        rw [← hu7]
        clear hu7 hd0 hd1 hd2 hd3 hd4 hd5 hd6 hg0 hg1 hg2 hg3' hg4 hg5' hg6
        refine hK _ _ (.inl (by kernel_rfl)) ?_
        clear hK K
        have hE := hend u7 (by omega) (fun k h1 h2 => (n7 k h2).trans (n8 k h1)) c7 ⟨_, ho7⟩ b7
        clear hend
        refine wpAnyY_done (by kernel_rfl) ?_ _
        gi_wp2_with fail
        rw [e1]; exact unhide hE
  case done =>
    rintro D ys W hD hys ⟨v, xs, hb1, hor, hB, hW3⟩ hK
    rw [hys] at hor
    replace hys := hide hys
    obtain ⟨av, cv, rfl⟩ := owns_slice hor
    obtain ⟨hr0, hf0⟩ := hb1.one
    replace hor := hide hor
    gi_wp2_with fail
    refine ⟨by simp, .inl ⟨_, _, rfl, run_takeDeferred hK, ?_⟩⟩
    refine ⟨.slice av (cntL (walkT 1 (.mk d ks))) cv, ?_, ⟨av, cv, rfl⟩, by rw [← unhide es]; exact hB.trans (belowK_b (w := w) hsw _ D _ _ (by omega) hK rfl rfl)⟩
    simp [results, Try.f12, go_sem]
  case stop =>
    rintro D c pre W hD - h
    exact h.elim

theorem nodes_c (d : Dat) (a : Option Addr) (ks : List Tree) (cap : Nat) (hM : nodesN (.mk d ks) ≤ 1000000) (w : World) (hL : Lies w.heap.size w a ks) :
    Calls Try.prog 12 #[d.v a ks.length cap] w fun e W' => (∃ a' c', e = .returned (.slice a' (nodesN (.mk d ks)) c')) ∧ Below w.heap.size w W' :=
  callsIn_wide.1 (nodes_in 5 (Nat.le_refl _) d a ks cap hM w hL)

end Go.Proofs.Ytbmgfibadpffgaa
