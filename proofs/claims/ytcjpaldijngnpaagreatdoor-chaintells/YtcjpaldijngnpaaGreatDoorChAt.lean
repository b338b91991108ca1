/-
  What a chain's At answers: a version's schema, in new memory, or that there is none; for every chain and number, in whatever world; nothing that lay is turned. What abides an iterator over versions.
-/
import Derived.Test.YtcjpaldijngnpaaGreatDoorChIter
namespace Go.Proofs.YtcjpaldijngnpaaGreatDoor
open Go.RowKit Go.Shelf

attribute [local go_sem] Oper.semAt_some

theorem okV_of (o : Obj) (h : o.isCells = false) : okV o := .inl h
theorem ownP_box {β : Type} {ok : Obj → Prop} {B b : Nat} (hb : b < B) (t : TypeId) (f : β → Array Value) : OwnP ok B (fun s W => Box W b t (f s)) := fun s A C row hs hg hr =>
  (hg.block b hs.lt (fun e => by have := (hr b e.symm).1; omega)).trans hs
theorem ownP_and {β : Type} {ok : Obj → Prop} {B : Nat} {I K : β → World → Prop} (h : OwnP ok B I) (k : OwnP ok B K) : OwnP ok B (fun s W => I s W ∧ K s W) := fun s A C row hs hg hr => ⟨h s A C row hs.1 hg hr, k s A C row hs.2 hg hr⟩
theorem ownP_pure {β : Type} (ok : Obj → Prop) (B : Nat) (p : β → Prop) : OwnP ok B (fun s (_ : World) => p s) := fun _ _ _ _ hs _ _ => hs
theorem ownP_ex {β γ : Type} {ok : Obj → Prop} {B : Nat} {I : γ → β → World → Prop} (h : ∀ c, OwnP ok B (I c)) : OwnP ok B (fun s W => ∃ c, I c s W) := fun s A C row ⟨c, hs⟩ hg hr => ⟨c, h c s A C row hs hg hr⟩
theorem ownP_below {β : Type} {ok : Obj → Prop} {B m : Nat} {w : World} (hm : m ≤ B) (hs0 : m ≤ w.heap.size) : OwnP ok B (fun (_ : β) W => Below m w W) := fun _ A C row hs hg hr =>
  hs.trans ⟨hg.os, hg.tape, hg.output, hg.size, fun k hk => hg.block k (by have := hs.size; omega) (fun e => by have := (hr k e.symm).1; omega)⟩
theorem ownP_row {β : Type} {B base : Nat} {e : TypeId} (he : e ≠ 24) (size : Nat) (v : Value) (n : Nat) (xs : List Value) : OwnP okV B (fun (_ : β) W => W.ownsRow base e size v n xs) := fun _ A C row hs hg hr =>
  owns_keep hs fun g hgo hl => hg.block g hl (fun e' => by
    obtain ⟨_, cur, hc⟩ := owns_lt hs hgo
    obtain ⟨_, o, ho, hok⟩ := hr g e'.symm
    rw [hc] at ho
    cases ho
    rcases hok with h | ⟨cs, z, h⟩
    · cases h
    · cases h; exact he rfl)
theorem ownP_ownT {β : Type} {B base : Nat} (a : Option Addr) (c : Nat) (ts : List Ty) : OwnP okV B (fun (_ : β) W => OwnT base W a c ts) := fun s A C row ⟨xs, h1, h2, h3⟩ hg hr =>
  ⟨xs, h1, ownP_row (by decide) _ _ _ _ s A C row h2 hg hr, fun x hx => ownP_row (by decide) _ _ _ _ s A C row (h3 x hx) hg hr⟩
theorem own_ownT {β : Type} {B base : Nat} (a : Option Addr) (c : Nat) (ts : List Ty) : OwnFrom B (fun (_ : β) W => OwnT base W a c ts) := fun s A C row hs hg hr => ownP_ownT a c ts s A C row hs hg (fun r e => by obtain ⟨h1, o, h2, h3⟩ := hr r e; exact ⟨h1, o, h2, .inl h3⟩)

theorem versions_c (Bp : Nat) (w : World) : Calls Tryz.prog 46 #[.pointer (some ⟨Bp, 0, none⟩)] w fun e w' => e = .returned (.func (.func 75) #[] #[.pointer (some ⟨w.heap.size, 0, none⟩)]) ∧ w' = w.alloc (.cells #[.pointer (some ⟨Bp, 0, none⟩)] 31) := by
  go_enter Tryz.func46, Tryz.ntmps46
  go_wp2
  go_ret
  exact ⟨rfl, rfl⟩

theorem versions_told (n : Nat) (hn : 1 ≤ n) (Bs Bp n₀ cap capc : Nat) (a ac : Option Addr) (ts : List Ty) (cs : List Ch) (hS : Sch ts) (h20 : cs.length ≤ 20) (X : Nat → Prop) (w : World) (hn₀ : n₀ ≤ w.heap.size) (hX : ∀ k, X k → n₀ ≤ k ∧ k < w.heap.size) (hBs : Box w Bs 31 #[.pointer (some ⟨Bp, 0, none⟩)]) (hXs : ¬ X Bs) (hC : IsCh n₀ w Bp a ac cap capc ts cs) :
    SeqTold okV Fence.wide n Tryz.prog 75 #[.pointer (some ⟨Bs, 0, none⟩)] (vnV ts cs) (KeepC X) (ElV ts cs w.heap.size) (fun xs => xs.length = cs.length + 1) (fun _ => True) w := fun l J Jx W hW hJ _ hY h0 => by
  refine (versions1_told n hn l Bs Bp n₀ cap capc a ac ts cs hS h20 X J Jx W hJ w.heap.size hW.size (fun pre x W1 h1 h2 => (hY pre x W1 h1 h2).mono fun _ _ h => h.2) (Nat.le_trans hn₀ hW.size) hX (hBs.on hW hBs.lt) hXs (hC.on (hW.mono hn₀)) h0).mono ?_
  rintro e W' ⟨he, ⟨xs, h1, h2⟩ | ⟨pre, h2⟩⟩
  · exact ⟨he, .inl ⟨xs, h1, h2⟩⟩
  · exact ⟨he, .inr ⟨pre, trivial, h2⟩⟩

/-- What At answers. -/
def AtAns (ts : List Ty) (cs : List Ch) (v : Int) (base : Nat) (e : Ending) (W : World) : Prop :=
  (∃ (k : Nat) (a' : Option Addr) (c' : Nat), v = k ∧ k ≤ cs.length ∧ e = .returned (.tuple #[.agg #[.slice a' (vers ts cs k).length c'], .bool true]) ∧ OwnT base W a' c' (vers ts cs k)) ∨ ((v < 0 ∨ (cs.length : Int) < v) ∧ e = .returned (.tuple #[.agg #[.slice none 0 0], .bool false]))

set_option maxRecDepth 100000 in
set_option maxHeartbeats 4000000 in
theorem at_in (n : Nat) (hn : 3 ≤ n) (Bp cap capc : Nat) (a ac : Option Addr) (ts : List Ty) (cs : List Ch) (v : Int) (hS : Sch ts) (h20 : cs.length ≤ 20) (w : World) (hC : IsCh w.heap.size w Bp a ac cap capc ts cs) :
    CallsIn Fence.wide n Tryz.prog 18 #[.pointer (some ⟨Bp, 0, none⟩), .int .i64 v] w fun e W' => AtAns ts cs v w.heap.size e W' ∧ Below w.heap.size w W' := by
  have h1 : 1 ≤ n := by omega
  have hro : Fence.wide.round = none := rfl
  obtain ⟨W0, hW0⟩ : ∃ W0, W0 = ((w.alloc (.cells #[.int .i64 v] 3)).alloc (.cells #[.slice none 0 0] 24)).alloc (.cells #[.bool false] 4) := ⟨_, rfl⟩
  have e0 : W0.heap.size = w.heap.size + 3 := by rw [hW0]; simp
  have b0 : Below w.heap.size w W0 := by rw [hW0]; exact (((Below.refl _ _).alloc (Nat.le_refl _) _).alloc (by simp) _).alloc (by simp; omega) _
  have x3 : Box W0 w.heap.size 3 #[.int .i64 v] := by rw [hW0]; exact ((Box.new w 3 #[.int .i64 v]).alloc _).alloc _
  have x4 : Box W0 (w.heap.size + 1) 24 #[.slice none 0 0] := by
    have := Box.new (w.alloc (.cells #[.int .i64 v] 3)) 24 #[.slice none 0 0]
    simp only [World.size_alloc] at this
    rw [hW0]; exact this.alloc _
  have x5 : Box W0 (w.heap.size + 1 + 1) 4 #[.bool false] := by
    have := Box.new ((w.alloc (.cells #[.int .i64 v] 3)).alloc (.cells #[.slice none 0 0] 24)) 4 #[.bool false]
    simp only [World.size_alloc] at this
    rw [hW0]; exact this
  refine callsIn_of_wp_marks Tryz.func18 rfl trivial ?_ rfl
  simp only [Tryz.ntmps18, List.size_toArray, List.length_cons, List.length_nil, Nat.reduceAdd, Nat.reduceSub, Array.replicate_succ, Array.replicate_zero, List.push_toArray, List.append_toArray, List.nil_append, List.cons_append]
  gi_upto_region 1 with fail
  rw [← hW0]
  clear hW0
  gi_wp2_with fail
  refine ⟨trivial, ?_⟩
  refine (callsIn_wide.2 (versions_c Bp W0)).mono ?_
  rintro e w1 ⟨rfl, hw1⟩
  have b1 : Below W0.heap.size W0 w1 := by rw [hw1]; exact (Below.refl _ _).alloc (Nat.le_refl _) _
  have xs : Box w1 W0.heap.size 31 #[.pointer (some ⟨Bp, 0, none⟩)] := by rw [hw1]; exact Box.new _ _ _
  have e1 : w1.heap.size = w.heap.size + 4 := by rw [hw1]; simp [e0]
  clear hw1
  have bw := b0.trans (b1.mono b0.size)
  gi_wp2_with fail
  rw [e0] at xs
  refine wpIn_rangeFunc_told okV_of hro h1 (gf := 75) (lb := #[.pointer (some ⟨w.heap.size + 3, 0, none⟩)]) rfl trivial (enters_of Tryz.func75 (by kernel_rfl) rfl)
    (versions_told (n - 1) (by omega) (w.heap.size + 3) Bp w.heap.size cap capc a ac ts cs hS h20 (fun _ => False) w1 (by omega) (fun _ h => h.elim) xs (fun h => h) (hC.on bw)) KeepC.trans
    (fun W l o o' hl h hc hw => KeepC.put W h hc o') (Below.refl _ _) (fun _ => rfl)
    (fun pre W => (Box W w.heap.size 3 #[.int .i64 v] ∧ Box W (w.heap.size + 1) 24 #[.slice none 0 0] ∧ Box W (w.heap.size + 1 + 1) 4 #[.bool false]) ∧ Hid (v < 0 ∨ (pre.length : Int) ≤ v) ∧ Below w.heap.size w W)
    (fun c pre W => ∃ (k : Nat) (a' : Option Addr) (c' : Nat), (c = .ret ∧ v = k ∧ k ≤ cs.length) ∧ (Box W (w.heap.size + 1) 24 #[.slice a' (vers ts cs k).length c'] ∧ Box W (w.heap.size + 1 + 1) 4 #[.bool true]) ∧ OwnT w1.heap.size W a' c' (vers ts cs k) ∧ Below w.heap.size w W)
    (ownP_and (ownP_and (ownP_box (by omega) _ (fun _ => _)) (ownP_and (ownP_box (by omega) _ (fun _ => _)) (ownP_box (by omega) _ (fun _ => _)))) (ownP_and (ownP_pure _ _ (fun _ => _)) (ownP_below (by omega) (Nat.le_refl _))))
    (fun c => ownP_ex fun k => ownP_ex fun a' => ownP_ex fun c' => ownP_and (ownP_pure _ _ (fun _ => _)) (ownP_and (ownP_and (ownP_box (by omega) _ (fun _ => _)) (ownP_box (by omega) _ (fun _ => _))) (ownP_and (ownP_ownT _ _ _) (ownP_below (by omega) (Nat.le_refl _)))))
    ⟨⟨x3.on b1 x3.lt, x4.on b1 x4.lt, x5.on b1 x5.lt⟩, hide (by simp only [List.length_nil]; omega), bw⟩
    (fun pre x a1 W => ∃ Bf, (Box W Bf 24 #[.slice x.2.1 (vers ts cs x.1).length x.2.2] ∧ ElV ts cs w1.heap.size pre x W) ∧ a1 = { tmps := #[.pointer (some ⟨Bp, 0, none⟩), .int .i64 v, undef, .pointer (some ⟨w.heap.size, 0, none⟩), .pointer (some ⟨w.heap.size + 1, 0, none⟩), .pointer (some ⟨w.heap.size + 1 + 1, 0, none⟩), .int .i64 x.1, .pointer (some ⟨Bf, 0, none⟩), .pointer (some ⟨Bp, 0, none⟩), .func (.func 75) #[] #[.pointer (some ⟨w.heap.size + 3, 0, none⟩)], .int .i64 x.1, .agg #[.slice x.2.1 (vers ts cs x.1).length x.2.2], undef, undef, undef, undef, undef], defers := [] })
    (fun pre x a1 s A B row hs hg hr => by
      obtain ⟨Bf, ⟨hf, h1, h2, h3⟩, e⟩ := hs
      exact ⟨Bf, ⟨box_own _ _ (fun _ => _) s A B row hf hg (fun r e => (hr r e).2), h1, h2, own_ownT _ _ _ s A B row h3 hg hr⟩, e⟩) ?assign ?body ?done ?stop
  case assign =>
    rintro l pre x W K ⟨⟨hb3, hb4, hb5⟩, hp, hB⟩ ⟨he1, he2, he3⟩ hK
    have bA : Below W.heap.size W (W.alloc (.cells #[.slice x.2.1 (vers ts cs x.1).length x.2.2] 24)) := (Below.refl _ W).alloc (Nat.le_refl _) _
    replace he3 := hide he3
    replace he1 := hide he1
    gi_wp2
    refine hK _ _ ?_ ?_ ?_ ?_
    · exact (keeps_below bA).from _
    · exact KeepC.below bA
    · exact ⟨⟨hb3.alloc _, hb4.alloc _, hb5.alloc _⟩, hp, hB.alloc hB.size _⟩
    · exact ⟨W.heap.size, ⟨Box.new W 24 _, unhide he1, he2, (unhide he3).on bA⟩, rfl⟩
  case body =>
    rintro l pre x a1 W ⟨⟨hb3, hb4, hb5⟩, hp, hB⟩ ⟨Bf, ⟨hf, he1, he2, he3⟩, rfl⟩
    have hv := hb3.one.1
    have hf0 := hf.one.1
    obtain ⟨hr0, hrf⟩ := hb4.one
    obtain ⟨hq0, hqf⟩ := hb5.one
    have h3' := hide he3
    replace he1 := hide he1
    clear he3
    by_cases hxv : (x.1 : Int) = v
    · have hxv' : ((x.1 : Int) == v) = true := by simp [hxv]
      have hW := hide hxv
      clear hxv
      gi_wp2_with fail
      have s1 := hb4.set 0 (.slice x.2.1 (vers ts cs x.1).length x.2.2)
      have s2 := hb5.other ⟨w.heap.size + 1, 0, none⟩ (.slice x.2.1 (vers ts cs x.1).length x.2.2) (by simp only; omega)
      have k1 := KeepsOthers.setCell W ⟨w.heap.size + 1, 0, none⟩ (.slice x.2.1 (vers ts cs x.1).length x.2.2)
      have k2 := KeepsOthers.setCell (W.setCell ⟨w.heap.size + 1, 0, none⟩ (.slice x.2.1 (vers ts cs x.1).length x.2.2)) ⟨w.heap.size + 1 + 1, 0, none⟩ (.bool true)
      refine ⟨(k1.trans k2).from _, x.1, x.2.1, x.2.2, ⟨rfl, (unhide hW).symm, by rw [unhide he1]; exact he2⟩, ⟨s1.other _ _ (by simp only; omega), s2.set 0 _⟩, ?_, (hB.setCell (p := ⟨w.heap.size + 1, 0, none⟩) (by simp only; omega) _).setCell (p := ⟨w.heap.size + 1 + 1, 0, none⟩) (by simp only; omega) _⟩
      exact ((unhide h3').set _ _ (by simp only; omega)).set _ _ (by simp only; omega)
    · have hxv' : ((x.1 : Int) == v) = false := by simp [hxv]
      have hn' := hide (show v < 0 ∨ ((pre ++ [x]).length : Int) ≤ v by
        rw [unhide he1] at hxv
        simp only [List.length_append, List.length_singleton]
        have := unhide hp
        omega)
      clear hxv
      gi_wp2_with fail
      exact ⟨KeepsFrom.refl _ _, KeepC.refl _ _, ⟨⟨hb3, hb4, hb5⟩, hn', hB⟩⟩
  case done =>
    rintro D ys W hD hys ⟨⟨hb3, hb4, hb5⟩, hp, hB⟩ hK
    obtain ⟨hr0, hrf⟩ := hb4.one
    obtain ⟨hq0, hqf⟩ := hb5.one
    replace hys := hide hys
    gi_wp2_with fail
    have k1 := (KeepsOthers.setCell W ⟨w.heap.size + 1, 0, none⟩ (.slice none 0 0)).trans (KeepsOthers.setCell (W.setCell ⟨w.heap.size + 1, 0, none⟩ (.slice none 0 0)) ⟨w.heap.size + 1 + 1, 0, none⟩ (.bool false))
    have hK' := k1.same D _ hK rfl
    have s4 : Box ((W.setCell ⟨w.heap.size + 1, 0, none⟩ (.slice none 0 0)).setCell ⟨w.heap.size + 1 + 1, 0, none⟩ (.bool false)) (w.heap.size + 1) 24 #[.slice none 0 0] := (hb4.set 0 (.slice none 0 0)).other _ _ (by simp only; omega)
    have s5 : Box ((W.setCell ⟨w.heap.size + 1, 0, none⟩ (.slice none 0 0)).setCell ⟨w.heap.size + 1 + 1, 0, none⟩ (.bool false)) (w.heap.size + 1 + 1) 4 #[.bool false] := (hb5.other ⟨w.heap.size + 1, 0, none⟩ (.slice none 0 0) (by simp only; omega)).set 0 _
    have bz := (hB.setCell (p := ⟨w.heap.size + 1, 0, none⟩) (by simp only; omega) (.slice none 0 0)).setCell (p := ⟨w.heap.size + 1 + 1, 0, none⟩) (by simp only; omega) (.bool false)
    obtain ⟨W5, hW5⟩ : ∃ W5, W5 = (W.setCell ⟨w.heap.size + 1, 0, none⟩ (.slice none 0 0)).setCell ⟨w.heap.size + 1 + 1, 0, none⟩ (.bool false) := ⟨_, rfl⟩
    rw [← hW5] at hK' s4 s5 bz ⊢
    refine ⟨by simp, .inl ⟨_, _, rfl, run_takeDeferred hK', ?_⟩⟩
    have d4 := (s4.put hK' rfl (.deferred none)).one.1
    have d5 := (s5.put hK' rfl (.deferred none)).one.1
    refine ⟨.tuple #[.agg #[.slice none 0 0], .bool false], ?_, .inr ⟨?_, rfl⟩, bz.trans (belowK_b (w := w) (Nat.le_refl _) _ D _ _ (by omega) hK' rfl rfl)⟩
    · simp [results, Tryz.f18, go_sem, d4, d5]
    · have h1 := unhide hp
      have h2 := unhide hys
      omega
  case stop =>
    rintro D c pre W hD - ⟨k, a', c', ⟨rfl, hk, hkl⟩, ⟨hb4, hb5⟩, hO, hB⟩ hK
    replace hO := hide hO
    have hk' := hide hk
    clear hk
    gi_wp2_with fail
    refine ⟨by simp, .inl ⟨_, _, rfl, run_takeDeferred hK, ?_⟩⟩
    have d4 := (hb4.put hK rfl (.deferred none)).one.1
    have d5 := (hb5.put hK rfl (.deferred none)).one.1
    refine ⟨.tuple #[.agg #[.slice a' (vers ts cs k).length c'], .bool true], ?_, .inl ⟨k, a', c', unhide hk', hkl, rfl, ?_⟩, hB.trans (belowK_b (w := w) (Nat.le_refl _) _ D _ _ (by omega) hK rfl rfl)⟩
    · simp [results, Tryz.f18, go_sem, d4, d5]
    · exact ((unhide hO).keep (X := fun _ => False) (KeepC.put W hK rfl _) (fun _ h => h.elim)).base (by omega)

theorem at_c (Bp cap capc : Nat) (a ac : Option Addr) (ts : List Ty) (cs : List Ch) (v : Int) (hS : Sch ts) (h20 : cs.length ≤ 20) (w : World) (hC : IsCh w.heap.size w Bp a ac cap capc ts cs) :
    Calls Tryz.prog 18 #[.pointer (some ⟨Bp, 0, none⟩), .int .i64 v] w fun e W' => AtAns ts cs v w.heap.size e W' ∧ Below w.heap.size w W' :=
  callsIn_wide.1 (at_in 3 (Nat.le_refl _) Bp cap capc a ac ts cs v hS h20 w hC)

end Go.Proofs.YtcjpaldijngnpaaGreatDoor
