/-
  What Is answers of a condition: for every tree that lies, in whatever world; nothing that lay is turned.
-/
import Derived.Test.YtfofpenajkaalaaDoorSound
namespace Go.Proofs.YtfofpenajkaalaaDoor
open Go.RowKit Go.Shelf

attribute [local go_sem] Oper.semAt_some

theorem ownP_box {β : Type} {ok : Obj → Prop} {B b : Nat} (hb : b < B) (t : TypeId) (f : β → Array Value) : OwnP ok B (fun s W => Box W b t (f s)) := fun s A C row hs hg hr =>
  (hg.block b hs.lt (fun e => by have := (hr b e.symm).1; omega)).trans hs
theorem ownP_and {β : Type} {ok : Obj → Prop} {B : Nat} {I K : β → World → Prop} (h : OwnP ok B I) (k : OwnP ok B K) : OwnP ok B (fun s W => I s W ∧ K s W) := fun s A C row hs hg hr => ⟨h s A C row hs.1 hg hr, k s A C row hs.2 hg hr⟩
theorem ownP_pure {β : Type} (ok : Obj → Prop) (B : Nat) (p : β → Prop) : OwnP ok B (fun s (_ : World) => p s) := fun _ _ _ _ hs _ _ => hs
theorem ownP_ex {β γ : Type} {ok : Obj → Prop} {B : Nat} {I : γ → β → World → Prop} (h : ∀ c, OwnP ok B (I c)) : OwnP ok B (fun s W => ∃ c, I c s W) := fun s A C row ⟨c, hs⟩ hg hr => ⟨c, h c s A C row hs hg hr⟩
theorem ownP_below {β : Type} {ok : Obj → Prop} {B m : Nat} {w : World} (hm : m ≤ B) (hs0 : m ≤ w.heap.size) : OwnP ok B (fun (_ : β) W => Below m w W) := fun _ A C row hs hg hr =>
  hs.trans ⟨hg.os, hg.tape, hg.output, hg.size, fun k hk => hg.block k (by have := hs.size; omega) (fun e => by have := (hr k e.symm).1; omega)⟩
theorem keeps_below {W W' : World} (hb : Below W.heap.size W W') : KeepsOthers W W' := ⟨hb.size, fun k _ hk _ => (hb.block k (Array.getElem?_eq_some_iff.1 hk).1).trans hk⟩

theorem setCell_block (W : World) (p : Addr) (v : Value) {g : Nat} (h : p.block ≠ g) : (W.setCell p v).heap[g]? = W.heap[g]? := by
  simp [World.setCell, Array.getElem?_modify, h]
theorem cls_static (n₀ m : Nat) (X : Nat → Prop) (hX : ∀ k, X k → n₀ ≤ k ∧ k < m) : Cls n₀ (fun k _ => X k) (fun W => m ≤ W.heap.size) where
  al W o h := by simp; omega
  new W o h hx := by have := (hX _ hx).2; omega
  old W o k h hx := hx
  low W k h hx := (hX k hx).1
  put W l o o' h hl ho := ⟨by simpa using h, fun k hx => hx⟩
theorem KeepX.stat {m : Nat} {X : Nat → Prop} {A B : World} (hs : A.heap.size ≤ B.heap.size) (h : ∀ k o, ¬ X k → A.heap[k]? = some o → o.isCells = true → B.heap[k]? = some o) : KeepX (fun k _ => X k) (fun W => m ≤ W.heap.size) A B := fun g =>
  ⟨Nat.le_trans g hs, hs, fun k o hk hc hx => ⟨h k o hx hk hc, hx⟩⟩
theorem KeepX.stat_below {m : Nat} {X : Nat → Prop} {A B : World} (h : Below A.heap.size A B) : KeepX (fun k _ => X k) (fun W => m ≤ W.heap.size) A B :=
  KeepX.stat h.size fun k _ _ hk _ => (h.block k (Array.getElem?_eq_some_iff.1 hk).1).trans hk
theorem KeepX.stat_set {m : Nat} {X : Nat → Prop} (A : World) (b i : Nat) (v : Value) (hb : X b) : KeepX (fun k _ => X k) (fun W => m ≤ W.heap.size) A (A.setCell ⟨b, i, none⟩ v) :=
  KeepX.stat (by simp) fun k o hx hk _ => (setCell_block _ _ _ (fun e => hx (by simp only at e; rw [← e]; exact hb))).trans hk

/-- A step of a walk is as it may be. -/
def okS (p : Nat × Tree) : Bool := decide (p.1 ≤ 5) && soundB p.2.dat p.2.kids.length
def goodL (l : List (Nat × Tree)) : Bool := decide (l.length ≤ 24) && l.all okS
/-- A condition as it may be. -/
def isT (t : Tree) : Bool := goodL (walkT 1 t)
theorem goodL_snoc (l : List (Nat × Tree)) (p : Nat × Tree) (h : goodL l = true) : goodL (l ++ [p]) = (decide (l.length + 1 ≤ 24) && okS p) := by
  simp only [goodL, Bool.and_eq_true, decide_eq_true_eq] at h
  obtain ⟨h1, h2⟩ := h
  simp only [goodL, List.length_append, List.length_singleton, List.all_append, h2, Bool.true_and, List.all_cons, List.all_nil, Bool.and_true]
theorem goodL_no (l m : List (Nat × Tree)) (h : goodL l = false) : goodL (l ++ m) = false := by
  simp only [goodL, Bool.and_eq_false_iff, decide_eq_false_iff_not] at h ⊢
  rcases h with h | h
  · exact .inl (by simp; omega)
  · exact .inr (by simp [h])
theorem goodL_len {l : List (Nat × Tree)} (h : goodL l = true) : l.length ≤ 24 := by
  simp only [goodL, Bool.and_eq_true, decide_eq_true_eq] at h
  exact h.1

set_option maxRecDepth 100000 in
set_option maxHeartbeats 4000000 in
theorem isT_in (n : Nat) (hn : 5 ≤ n) (d : Dat) (a : Option Addr) (ks : List Tree) (cap : Nat) (w : World) (hL : Lies w.heap.size w a ks) :
    CallsIn Fence.wide n Tryd.prog 24 #[d.v a ks.length cap] w fun e W' => e = .returned (.bool (isT (.mk d ks))) ∧ Below w.heap.size w W' := by
  have h1 : 1 ≤ n := by omega
  have hro : Fence.wide.round = none := rfl
  have hdl := hL.len
  obtain ⟨s, es⟩ : ∃ s, s = w.heap.size := ⟨_, rfl⟩
  obtain ⟨W0, hW0⟩ : ∃ W0, W0 = ((w.alloc (.cells (d.cs a ks.length cap) 26)).alloc (.cells #[.bool false] 4)).alloc (.cells #[.int .i64 0] 3) := ⟨_, rfl⟩
  have e0 : W0.heap.size = s + 3 := by rw [hW0]; simp [es]
  have b0 : Below s w W0 := by rw [hW0, es]; exact (((Below.refl _ _).alloc (Nat.le_refl _) _).alloc (by simp) _).alloc (by simp; omega) _
  have x1 : Box W0 s 26 (d.cs a ks.length cap) := by rw [hW0, es]; exact ((Box.new w 26 _).alloc _).alloc _
  have x2 : Box W0 (s + 1) 4 #[.bool false] := by
    have := (Box.new (w.alloc (.cells (d.cs a ks.length cap) 26)) 4 #[.bool false]).alloc (.cells #[.int .i64 0] 3)
    simp only [World.size_alloc] at this
    rw [hW0, es]; exact this
  have x3 : Box W0 (s + 2) 3 #[.int .i64 0] := by
    have := (Box.new ((w.alloc (.cells (d.cs a ks.length cap) 26)).alloc (.cells #[.bool false] 4)) 3 #[.int .i64 0])
    simp only [World.size_alloc] at this
    rw [hW0, es]; exact this
  obtain ⟨hc0, hc1, hc2, hc3, hc4, hc5, hc6⟩ := x1.seven
  refine callsIn_of_wp_marks Tryd.func24 rfl trivial ?_ rfl
  simp only [Tryd.ntmps24, List.size_toArray, List.length_cons, List.length_nil, Nat.reduceAdd, Nat.reduceSub, Array.replicate_succ, Array.replicate_zero, List.push_toArray, List.append_toArray, List.nil_append, List.cons_append]
  gi_upto_region 2 with fail
  rw [← hW0, ← es]
  simp only [Nat.add_assoc, Nat.reduceAdd]
  clear hW0
  have hsw : s ≤ w.heap.size := Nat.le_of_eq es
  have hws : w.heap.size ≤ s := Nat.le_of_eq es.symm
  replace hL : Lies s w a ks := by rw [es]; exact hL
  replace es := hide es
  gi_wp2_with fail
  refine ⟨trivial, ?_⟩
  refine (callsIn_wide.2 (walk_c d a ks.length cap W0)).mono ?_
  rintro e w1 ⟨rfl, ew⟩
  have b1 : Below W0.heap.size W0 w1 := by rw [ew]; exact (Below.refl _ _).alloc (Nat.le_refl _) _
  have e1 : w1.heap.size = s + 4 := by rw [ew]; simp [e0]
  have x4 : Box w1 (s + 3) 26 (d.cs a ks.length cap) := by rw [ew, ← e0]; exact Box.new _ _ _
  rw [e0]
  clear ew hc0 hc1 hc2 hc3 hc4 hc5 hc6
  have bw1 : Below s w w1 := b0.trans (b1.mono (by omega))
  gi_wp2_with fail
  refine wpIn_rangeFunc_told (ok := okN) (fun o h => h) hro h1 (gf := 62) (lb := #[.pointer (some ⟨s + 3, 0, none⟩)]) rfl trivial (enters_of Tryd.func62 (by kernel_rfl) rfl)
    (walk_told (n - 1) (s + 3) s (fun k _ => k = s + 1 ∨ k = s + 2) (fun W => s + 4 ≤ W.heap.size) (cls_static s (s + 4) _ (fun k h => by omega)) d a ks cap w1 (by omega) (hL.sm (Sm.of_below bw1)) x4 (fun W hW => by have := hW.size; omega)) KeepX.trans
    (fun W l o o' hl h hc hw => KeepX.put (cls_static s (s + 4) _ (fun k h => by omega)) W h hc o') (Below.refl _ _) (fun _ => rfl)
    (fun pre W => (Box W (s + 1) 4 #[.bool false] ∧ Box W (s + 2) 3 #[.int .i64 pre.length]) ∧ Hid (goodL (pre.map Step.p) = true) ∧ Below s w W)
    (fun c pre W => c = .ret ∧ Box W (s + 1) 4 #[.bool false] ∧ Hid (goodL (pre.map Step.p) = false) ∧ Below s w W)
    (ownP_and (ownP_and (ownP_box (by omega) _ (fun _ => _)) (ownP_box (by omega) _ (fun (pre : List Step) => #[.int .i64 pre.length]))) (ownP_and (ownP_pure _ _ (fun (pre : List Step) => Hid (goodL (pre.map Step.p) = true))) (ownP_below (by omega) (by omega))))
    (fun c => ownP_and (ownP_pure _ _ (fun _ => c = .ret)) (ownP_and (ownP_box (by omega) _ (fun _ => _)) (ownP_and (ownP_pure _ _ (fun (pre : List Step) => Hid (goodL (pre.map Step.p) = false))) (ownP_below (by omega) (by omega)))))
    ⟨⟨x2.on b1 x2.lt, x3.on b1 x3.lt⟩, hide rfl, bw1⟩
    (fun pre x a1' W => ∃ B1, Box W B1 26 (x.t.dat.cs x.a x.t.kids.length x.cap) ∧ a1' = { tmps := #[d.v a ks.length cap, .pointer (some ⟨s, 0, none⟩), .pointer (some ⟨s + 1, 0, none⟩), .pointer (some ⟨s + 2, 0, none⟩), .int .i64 x.d, .pointer (some ⟨B1, 0, none⟩), d.v a ks.length cap, .func (.func 62) #[] #[.pointer (some ⟨s + 3, 0, none⟩)], .int .i64 x.d, x.t.dat.v x.a x.t.kids.length x.cap, undef, undef, undef, undef, undef, undef, undef, undef, undef, undef, undef, undef, undef], defers := [] })
    (fun pre x a1' st A B row hs hg hr => by
      obtain ⟨B1, hf1, e⟩ := hs
      exact ⟨B1, box_own _ _ (fun _ => _) st A B row hf1 hg (fun r e => (hr r e).2), e⟩) ?assign ?body ?done ?stop
  case assign =>
    rintro l pre x W K ⟨⟨hb1, hb2⟩, hg, hB⟩ ⟨he1, he2⟩ hK
    obtain ⟨WA, hWA⟩ : ∃ WA, WA = W.alloc (.cells (x.t.dat.cs x.a x.t.kids.length x.cap) 26) := ⟨_, rfl⟩
    have bA : Below W.heap.size W WA := by rw [hWA]; exact (Below.refl _ W).alloc (Nat.le_refl _) _
    have q1 : Box WA W.heap.size 26 (x.t.dat.cs x.a x.t.kids.length x.cap) := by rw [hWA]; exact Box.new W 26 _
    replace he1 := hide he1
    replace he2 := hide he2
    replace hWA := hide hWA
    gi_wp2
    rw [← unhide hWA]
    refine hK _ _ ?_ ?_ ?_ ?_
    · exact (keeps_below bA).from _
    · exact KeepX.stat_below bA
    · exact ⟨⟨hb1.on bA hb1.lt, hb2.on bA hb2.lt⟩, hg, hB.trans (bA.mono (Nat.le_trans hsw hB.size))⟩
    · exact ⟨W.heap.size, q1, rfl⟩
  case body =>
    rintro l pre x a1' W ⟨⟨hb1, hb2⟩, hg, hB⟩ ⟨B1, hq, rfl⟩
    have h2 : 1 ≤ n - 1 - 1 := by omega
    have hp24 : (pre.map Step.p).length ≤ 24 := goodL_len (unhide hg)
    rw [List.length_map] at hp24
    have hsn := hide (show goodL ((pre ++ [x]).map Step.p) = (decide (pre.length + 1 ≤ 24) && okS x.p) by rw [List.map_append]; simpa using goodL_snoc (pre.map Step.p) x.p (unhide hg))
    obtain ⟨hd0, hd1, hd2, hd3, hd4, hd5, hd6⟩ := hq.seven
    obtain ⟨hr0, hf0⟩ := hb1.one
    obtain ⟨hr1, hf1⟩ := hb2.one
    have hi : ((pre.length : Int) + 1) = ((pre ++ [x]).length : Int) := by simp
    replace hi := hide hi
    have s2 : Box (W.setCell ⟨s + 2, 0, none⟩ (.int .i64 ((pre.length : Int) + 1))) (s + 2) 3 #[.int .i64 ((pre.length : Int) + 1)] := hb2.set 0 _
    have s1 := hb1.other ⟨s + 2, 0, none⟩ (.int .i64 ((pre.length : Int) + 1)) (by simp)
    have bS := hB.setCell (p := ⟨s + 2, 0, none⟩) (by simp) (.int .i64 ((pre.length : Int) + 1))
    have kS := KeepX.stat_set (m := s + 4) (X := fun k => k = s + 1 ∨ k = s + 2) W (s + 2) 0 (.int .i64 ((pre.length : Int) + 1)) (.inr rfl)
    by_cases c1 : x.d ≤ 5
    case neg =>
      have hno := hide (show goodL ((pre ++ [x]).map Step.p) = false by rw [unhide hsn]; simp [okS, c1])
      have e5 : decide ((5 : Int) < x.d) = true := by simp; omega
      clear c1
      gi_wp2_with fail
      refine ⟨trivial, ?_⟩
      gi_wp2_with fail
      exact ⟨((KeepsOthers.setCell _ _ _).trans (KeepsOthers.setCell _ _ _)).from _, rfl, s1.set 0 _, hno, bS.setCell (p := ⟨s + 1, 0, none⟩) (by simp) _⟩
    have e5 : decide ((5 : Int) < x.d) = false := by simp; omega
    by_cases c2 : pre.length + 1 ≤ 24
    case neg =>
      have hno := hide (show goodL ((pre ++ [x]).map Step.p) = false by rw [unhide hsn]; simp [c2])
      have e24 : decide ((24 : Int) < (pre.length : Int) + 1) = true := by simp; omega
      clear c1 c2
      gi_wp2_with fail
      refine ⟨trivial, ?_⟩
      gi_wp2_with fail
      exact ⟨((KeepsOthers.setCell _ _ _).trans (KeepsOthers.setCell _ _ _)).from _, rfl, s1.set 0 _, hno, bS.setCell (p := ⟨s + 1, 0, none⟩) (by simp) _⟩
    have e24 : decide ((24 : Int) < (pre.length : Int) + 1) = false := by simp; omega
    have hsn' := hide (show goodL ((pre ++ [x]).map Step.p) = soundB x.t.dat x.t.kids.length by rw [unhide hsn]; simp [c2, okS, c1])
    clear c1 c2 hsn
    have qS := hq
    have hne : B1 ≠ s + 2 := fun e => by
      subst e
      have h1 := hq; have h2 := hb2
      unfold Box at h1 h2
      rw [h1] at h2; simp at h2
    have qS := hq.other ⟨s + 2, 0, none⟩ (.int .i64 ((pre.length : Int) + 1)) (fun e => hne e.symm)
    obtain ⟨WS, hWS⟩ : ∃ WS, WS = W.setCell ⟨s + 2, 0, none⟩ (.int .i64 ((pre.length : Int) + 1)) := ⟨_, rfl⟩
    have kO := KeepsOthers.setCell W ⟨s + 2, 0, none⟩ (.int .i64 ((pre.length : Int) + 1))
    rw [← hWS] at qS s1 s2 bS kS kO
    obtain ⟨t0, t1, t2, t3, t4, t5, t6⟩ := qS.seven
    have t7 := s2.one.1
    gi_upto_region 6 with fail
    rw [← hWS]
    clear hWS hd0 hd1 hd2 hd3 hd4 hd5 hd6 hr0 hr1 hf0 hf1
    gi_wp2_with fail
    refine ⟨trivial, ?_⟩
    refine (CallsIn.inRound l (callsIn_wide.2 (isSound_c x.t.dat x.a x.t.kids.length x.cap WS))).mono ?_
    rintro e W2 ⟨rfl, hb3⟩
    have z1 := s1.on hb3 s1.lt
    have z2 := s2.on hb3 s2.lt
    have bZ := bS.trans (hb3.mono (Nat.le_trans hsw bS.size))
    obtain ⟨hr0, hf0⟩ := z1.one
    cases hso : soundB x.t.dat x.t.kids.length
    · rw [hso] at hsn'
      gi_wp2_with fail
      exact ⟨((kO.trans (keeps_below hb3)).trans (KeepsOthers.setCell _ _ _)).from _, rfl, z1.set 0 _, hsn', bZ.setCell (p := ⟨s + 1, 0, none⟩) (by simp) _⟩
    · rw [hso] at hsn'
      gi_wp2_with fail
      exact ⟨(kO.trans (keeps_below hb3)).from _, kS.trans (KeepX.stat_below hb3), ⟨z1, by rw [← unhide hi]; exact z2⟩, hsn', bZ⟩
  case done =>
    rintro D ys W hD hys ⟨⟨hb1, hb2⟩, hg, hB⟩ hK
    rw [hys] at hg
    replace hys := hide hys
    obtain ⟨hr0, hf0⟩ := hb1.one
    gi_wp2_with fail
    have hK' := (KeepsOthers.setCell W ⟨s + 1, 0, none⟩ (.bool true)).same D _ hK rfl
    refine ⟨by simp, .inl ⟨_, _, rfl, run_takeDeferred hK', ?_⟩⟩
    have d4 := ((hb1.set 0 (.bool true)).put hK' rfl (.deferred none)).one.1
    refine ⟨.bool true, ?_, by rw [show isT (.mk d ks) = true from unhide hg], by rw [← unhide es]; exact (hB.setCell (p := ⟨s + 1, 0, none⟩) (by simp) _).trans (belowK_b (w := w) hsw _ D _ _ (by omega) hK' rfl rfl)⟩
    simp [results, Tryd.f24, go_sem, d4]
  case stop =>
    rintro D c pre W hD ⟨rest, hr⟩ ⟨rfl, hb1, hg, hB⟩ hK
    have hno := hide (show isT (.mk d ks) = false by unfold isT; rw [← hr]; exact goodL_no _ _ (unhide hg))
    clear hr
    gi_wp2_with fail
    refine ⟨by simp, .inl ⟨_, _, rfl, run_takeDeferred hK, ?_⟩⟩
    have d4 := (hb1.put hK rfl (.deferred none)).one.1
    refine ⟨.bool false, ?_, by rw [unhide hno], by rw [← unhide es]; exact hB.trans (belowK_b (w := w) hsw _ D _ _ (by omega) hK rfl rfl)⟩
    simp [results, Tryd.f24, go_sem, d4]

theorem isT_c (d : Dat) (a : Option Addr) (ks : List Tree) (cap : Nat) (w : World) (hL : Lies w.heap.size w a ks) :
    Calls Tryd.prog 24 #[d.v a ks.length cap] w fun e W' => e = .returned (.bool (isT (.mk d ks))) ∧ Below w.heap.size w W' :=
  callsIn_wide.1 (isT_in 5 (Nat.le_refl _) d a ks cap w hL)

end Go.Proofs.YtfofpenajkaalaaDoor
