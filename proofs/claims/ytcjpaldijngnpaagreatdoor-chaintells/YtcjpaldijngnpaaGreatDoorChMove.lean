/-
  What the walk over the steps between two versions gives: each version's schema and the change behind it, in their turn, till it is told to stop; for every chain and two versions of it, in whatever world; nothing that lay is turned.
  What a chain's steps answers: the iterator over its steps, with three boxes of its own; and what that iterator tells, for every chain, in whatever world behind it.
  What evolve's Move answers, with the values in memory that the call made.
  What a chain's Move answers: the event behind the changes from a version to a later one, in new memory, or why not; for every chain, event and two numbers, in whatever world; nothing that lay is turned.
-/
import Derived.Test.YtcjpaldijngnpaaGreatDoorChHas
import Derived.Test.YtcjpaldijngnpaaGreatDoorReadsIn
import Derived.Test.YtcjpaldijngnpaaGreatDoorMove
namespace Go.Proofs.YtcjpaldijngnpaaGreatDoor
open Go.RowKit Go.Shelf

attribute [local go_sem] Oper.semAt_some readIn

theorem below_grown {B m : Nat} {A C : World} {row : Option Nat} {ok : Obj → Prop} (hm : m ≤ B) (hA : m ≤ A.heap.size) (hg : A.grownBy C row) (hr : ∀ r, row = some r → B ≤ r ∧ ∃ o : Obj, A.heap[r]? = some o ∧ ok o) : Below m A C :=
  ⟨hg.os, hg.tape, hg.output, hg.size, fun k hk => hg.block k (by omega) (fun e => by have := (hr k e.symm).1; omega)⟩
theorem ownP_isCh {β : Type} {ok : Obj → Prop} {B n₀ m : Nat} (hn : n₀ ≤ B) (hm : n₀ ≤ m) (Bp : Nat) (a ac : Option Addr) (cap capc : Nat) (ts : List Ty) (cs : List Ch) : OwnP ok B (fun (_ : β) W => m ≤ W.heap.size ∧ IsCh n₀ W Bp a ac cap capc ts cs) := fun _ _ _ _ hs hg hr =>
  ⟨Nat.le_trans hs.1 hg.size, hs.2.on (below_grown hn (Nat.le_trans hm hs.1) hg hr)⟩

/-- An element as it is handed over: a version's schema, the change behind it. -/
abbrev stV (ts : List Ty) (cs : List Ch) (x : Vn) : Array Value := #[.agg #[.slice x.2.1 (vers ts cs x.1).length x.2.2], (chn cs x.1).v]
def ElS (ts : List Ty) (cs : List Ch) (fr tv base : Nat) (pre : List Vn) (x : Vn) (W : World) : Prop := x.1 = fr + pre.length ∧ x.1 < tv ∧ OwnT base W x.2.1 x.2.2 (vers ts cs x.1)

set_option maxRecDepth 100000 in
set_option maxHeartbeats 8000000 in
theorem steps1_told (n : Nat) (hn : 3 ≤ n) (l Bc Bt Bf Bp n₀ cap capc : Nat) (a ac : Option Addr) (ts : List Ty) (cs : List Ch) (fr tv : Nat) (hft : fr ≤ tv) (hto : tv ≤ cs.length) (hS : Sch ts) (h20 : cs.length ≤ 20) (X : Nat → Prop) (J Jx : List Vn → World → Prop) (W : World) (hJ : OwnP okV W.heap.size J) (hJx : OwnP okV W.heap.size Jx)
    (base : Nat) (hbase : base ≤ W.heap.size)
    (hY : ∀ pre x W1, J pre W1 → ElS ts cs fr tv base pre x W1 → YieldAt Fence.wide (n - 1) Tryz.prog l (stV ts cs x) W1 fun e W' => KeepsFrom W.heap.size W1 W' ∧ ((e = .returned (.bool true) ∧ J (pre ++ [x]) W' ∧ KeepC X W1 W') ∨ (e = .returned (.bool false) ∧ Jx (pre ++ [x]) W')))
    (hn₀ : n₀ ≤ W.heap.size) (hX : ∀ k, X k → n₀ ≤ k ∧ k < base) (hBc : Box W Bc 31 #[.pointer (some ⟨Bp, 0, none⟩)]) (hBt : Box W Bt 3 #[.int .i64 tv]) (hBf : Box W Bf 3 #[.int .i64 fr]) (hXc : ¬ X Bc) (hXt : ¬ X Bt) (hXf : ¬ X Bf) (hC : IsCh n₀ W Bp a ac cap capc ts cs) (h0 : J [] W) :
    CallsIn Fence.wide n Tryz.prog 71 #[.func (.yield l) #[] #[], .pointer (some ⟨Bc, 0, none⟩), .pointer (some ⟨Bt, 0, none⟩), .pointer (some ⟨Bf, 0, none⟩)] W fun e W' => (∃ v, e = .returned v) ∧ ((∃ xs, xs.length = tv - fr ∧ J xs W') ∨ ∃ pre, Jx pre W') := by
  have h1 : 1 ≤ n := by omega
  have hro : Fence.wide.round = none := rfl
  have hmx : Tryz.prog.follows .mixedOrders = true := by kernel_rfl
  have hX0 : ∀ k, X k → n₀ ≤ k := fun k h => (hX k h).1
  obtain ⟨w1, hw1⟩ : ∃ w1, w1 = W.alloc (.cells #[.func (.yield l) #[] #[]] 139) := ⟨_, rfl⟩
  have b1 : Below W.heap.size W w1 := by rw [hw1]; exact (Below.refl _ _).alloc (Nat.le_refl _) _
  have e1 : w1.heap.size = W.heap.size + 1 := by rw [hw1]; simp
  have xy : Box w1 W.heap.size 139 #[.func (.yield l) #[] #[]] := by rw [hw1]; exact Box.new _ _ _
  have hcb := (hBc.on b1 hBc.lt).one.1
  refine callsIn_of_wp_marks Tryz.func71 rfl trivial ?_ rfl
  simp only [Tryz.ntmps71, List.size_toArray, List.length_cons, List.length_nil, Nat.reduceAdd, Nat.reduceSub, Array.replicate_succ, Array.replicate_zero, List.push_toArray, List.append_toArray, List.nil_append, List.cons_append]
  gi_upto_region 1 with fail
  rw [← hw1]
  clear hw1
  gi_wp2_with fail
  refine ⟨trivial, ?_⟩
  refine (callsIn_wide.2 (versions_c Bp w1)).mono ?_
  rintro e w2 ⟨rfl, hw2⟩
  have b2 : Below w1.heap.size w1 w2 := by rw [hw2]; exact (Below.refl _ _).alloc (Nat.le_refl _) _
  have e2 : w2.heap.size = W.heap.size + 2 := by rw [hw2]; simp [e1]
  have xv : Box w2 w1.heap.size 31 #[.pointer (some ⟨Bp, 0, none⟩)] := by rw [hw2]; exact Box.new _ _ _
  clear hw2 hcb
  have b12 := b1.trans (b2.mono b1.size)
  rw [e1] at xv
  replace xy := xy.on b2 xy.lt
  have J2 := hJ.below h0 b12
  gi_wp2_with fail
  refine wpIn_rangeFunc_told okV_of hro h1 (gf := 75) (lb := #[.pointer (some ⟨W.heap.size + 1, 0, none⟩)]) rfl trivial (enters_of Tryz.func75 (by kernel_rfl) rfl)
    (versions_told (n - 1) (by omega) (W.heap.size + 1) Bp n₀ cap capc a ac ts cs hS h20 X w2 (by omega) (fun k h => ⟨hX0 k h, by have := (hX k h).2; omega⟩) xv (fun h => by have := (hX _ h).2; omega) (hC.on (b12.mono hn₀))) KeepC.trans
    (fun W l o o' hl h hc hw => KeepC.put W h hc o') (Below.refl _ _) (fun _ => rfl)
    (fun pre V => (Box V W.heap.size 139 #[.func (.yield l) #[] #[]] ∧ Box V Bc 31 #[.pointer (some ⟨Bp, 0, none⟩)] ∧ Box V Bt 3 #[.int .i64 tv] ∧ Box V Bf 3 #[.int .i64 fr]) ∧ (w2.heap.size ≤ V.heap.size ∧ IsCh n₀ V Bp a ac cap capc ts cs) ∧ Hid (pre.length ≤ tv) ∧ J (pre.drop fr) V)
    (fun c pre V => c = .ret ∧ ((∃ xs, xs.length = tv - fr ∧ J xs V) ∨ ∃ ls, Jx ls V))
    (ownP_and (ownP_and (ownP_box (by omega) _ (fun _ => _)) (ownP_and (ownP_box (by have := hBc.lt; omega) _ (fun _ => _)) (ownP_and (ownP_box (by have := hBt.lt; omega) _ (fun _ => _)) (ownP_box (by have := hBf.lt; omega) _ (fun _ => _))))) (ownP_and (ownP_isCh (by omega) (by omega) _ _ _ _ _ _ _) (ownP_and (ownP_pure _ _ (fun _ => _)) (fun s A C row hs hg hr => (hJ.mono (by omega)) (s.drop fr) A C row hs hg hr))))
    (fun c s A C row hs hg hr => ⟨hs.1, hs.2.imp (fun ⟨xs, h1, h2⟩ => ⟨xs, h1, (hJ.mono (by omega)) xs A C row h2 hg hr⟩) (fun ⟨ls, h2⟩ => ⟨ls, (hJx.mono (by omega)) ls A C row h2 hg hr⟩)⟩)
    ⟨⟨xy, hBc.on b12 hBc.lt, hBt.on b12 hBt.lt, hBf.on b12 hBf.lt⟩, ⟨Nat.le_refl _, hC.on (b12.mono hn₀)⟩, hide (Nat.zero_le _), by simpa using J2⟩
    (fun pre x a1 V => ∃ Bs, (Box V Bs 24 #[.slice x.2.1 (vers ts cs x.1).length x.2.2] ∧ w2.heap.size ≤ Bs) ∧ ElV ts cs w2.heap.size pre x V ∧ a1 = { tmps := #[.func (.yield l) #[] #[], .pointer (some ⟨Bc, 0, none⟩), .pointer (some ⟨Bt, 0, none⟩), .pointer (some ⟨Bf, 0, none⟩), .pointer (some ⟨W.heap.size, 0, none⟩), .int .i64 x.1, .pointer (some ⟨Bs, 0, none⟩), .pointer (some ⟨Bp, 0, none⟩), .func (.func 75) #[] #[.pointer (some ⟨W.heap.size + 1, 0, none⟩)], .int .i64 x.1, .agg #[.slice x.2.1 (vers ts cs x.1).length x.2.2], undef, undef, undef, undef, undef, undef, undef, undef, undef, undef, undef, undef, undef, undef, undef, undef, undef, undef, undef], defers := [] })
    (fun pre x a1 s A B row hs hg hr => by
      obtain ⟨Bs, ⟨hf, hl⟩, ⟨h1, h2, h3⟩, e⟩ := hs
      exact ⟨Bs, ⟨box_own _ _ (fun _ => _) s A B row hf hg (fun r e => (hr r e).2), hl⟩, ⟨h1, h2, own_ownT _ _ _ s A B row h3 hg hr⟩, e⟩) ?assign ?body ?done ?stop
  case assign =>
    rintro l' pre x V K ⟨⟨hy, hc, ht, hf⟩, ⟨hnV, hCV⟩, hp, hj⟩ ⟨he1, he2, he3⟩ hK
    have bA : Below V.heap.size V (V.alloc (.cells #[.slice x.2.1 (vers ts cs x.1).length x.2.2] 24)) := (Below.refl _ V).alloc (Nat.le_refl _) _
    replace he3 := hide he3
    replace he1 := hide he1
    have hlV := hy.lt
    gi_wp2
    refine hK _ _ ?_ ?_ ?_ ?_
    · exact (keeps_below bA).from _
    · exact KeepC.below bA
    · exact ⟨⟨hy.alloc _, hc.alloc _, ht.alloc _, hf.alloc _⟩, ⟨by simp; omega, hCV.on (bA.mono (by omega))⟩, hp, (hJ.below hj bA)⟩
    · exact ⟨V.heap.size, ⟨Box.new V 24 _, hnV⟩, ⟨unhide he1, he2, (unhide he3).on bA⟩, rfl⟩
  case body =>
    rintro l' pre x a1 V ⟨⟨hy, hc, ht, hf⟩, ⟨hnV, hCV⟩, hp, hj⟩ ⟨Bs, ⟨hs, hsl⟩, ⟨he1, he2, he3⟩, rfl⟩
    have ht0 := ht.one.1
    have hpt := unhide hp
    replace he3 := hide he3
    by_cases hxt : tv ≤ x.1
    · have hxt' : (tv : Int) ≤ x.1 := by omega
      have hlen := hide (show (pre.drop fr).length = tv - fr by rw [List.length_drop]; omega)
      replace he1 := hide he1
      gi_wp2_with fail
      exact ⟨KeepsFrom.refl _ _, rfl, .inl ⟨_, unhide hlen, hj⟩⟩
    · have hxt' : ¬ (tv : Int) ≤ x.1 := by omega
      gi_upto_region 5 with fail
      obtain ⟨V1, hV1⟩ : ∃ V1, V1 = ({ heap := V.heap, tape := V.tape, drawn := V.drawn + 1, os := V.os, output := V.output } : World) := ⟨_, rfl⟩
      have bV : Below V.heap.size V V1 := by rw [hV1]; exact (Below.refl _ _).drew
      have hxcs : x.1 < cs.length := by omega
      obtain ⟨b, off, eac, hbl, hcs⟩ : ∃ b off, ac = some ⟨b, off, none⟩ ∧ b < n₀ ∧ ∀ (i : Nat) u, (chn cs x.1).cs[i]? = some u → V.cell? ⟨b, off + x.1 * 7 + i, none⟩ = some u := by
        rcases hCV.chs with h | ⟨b, off, e, hb, hc⟩
        · rw [h] at hxcs; simp at hxcs
        · exact ⟨b, off, e, hb, hc x.1 hxcs⟩
      subst eac
      have cD : Box V1 W.heap.size 139 #[.func (.yield l) #[] #[]] ∧ Box V1 Bs 24 #[.slice x.2.1 (vers ts cs x.1).length x.2.2] ∧ Box V1 Bc 31 #[.pointer (some ⟨Bp, 0, none⟩)] ∧ Box V1 Bf 3 #[.int .i64 fr] ∧ Box V1 Bp 76 #[.slice a ts.length cap, .slice (some ⟨b, off, none⟩) cs.length capc] ∧ ∀ (i : Nat) u, (chn cs x.1).cs[i]? = some u → V1.cell? ⟨b, off + x.1 * 7 + i, none⟩ = some u := ⟨hy.on bV hy.lt, hs.on bV hs.lt, hc.on bV hc.lt, hf.on bV hf.lt, hCV.box.on bV (by have := hCV.lt; omega), fun i u hu => (bV.cell (p := ⟨b, off + x.1 * 7 + i, none⟩) (by simp only; omega)).trans (hcs i u hu)⟩
      have JV := hJ.below hj bV
      have CV1 := hCV.on (bV.mono (by omega))
      by_cases hxf : fr ≤ x.1
      · have hxf' : (fr : Int) ≤ x.1 := by omega
        have hd := hide (show pre.drop fr ++ [x] = (pre ++ [x]).drop fr by rw [List.drop_append_of_le_length (by omega)])
        obtain ⟨fn, tmps, assign, body, hyy, hR⟩ := yield_in (l' := l') (m' := n - 1 - 1 - 1) ((hY (pre.drop fr) x V1 JV ⟨by rw [List.length_drop]; omega, by omega, ((unhide he3).on bV).base (by omega)⟩).mono
          (R' := fun e W' => ∃ bb : Bool, e = .returned (.bool bb) ∧ Hid (KeepsFrom W.heap.size V1 W' ∧ ((bb = true ∧ J (pre.drop fr ++ [x]) W' ∧ KeepC X V1 W') ∨ (bb = false ∧ Jx (pre.drop fr ++ [x]) W'))))
          (fun e W' h => by
            rcases h with ⟨hkf, ⟨rfl, h⟩ | ⟨rfl, h⟩⟩
            · exact ⟨true, rfl, hkf, .inl ⟨rfl, h⟩⟩
            · exact ⟨false, rfl, hkf, .inr ⟨rfl, h⟩⟩))
        dsimp only [stV] at hyy
        replace he1 := hide he1
        replace hR := hide hR
        obtain ⟨cc, hcc⟩ : ∃ cc, cc = chn cs x.1 := ⟨_, rfl⟩
        rw [← hcc] at hyy cD
        replace hyy := hide hyy
        clear hcc hcs hY
        refine wpIn_region_any hmx (wpAnyIn_of_Z (z := 13) (C := fun w' => Box w' W.heap.size 139 #[.func (.yield l) #[] #[]] ∧ Box w' Bs 24 #[.slice x.2.1 (vers ts cs x.1).length x.2.2] ∧ Box w' Bc 31 #[.pointer (some ⟨Bp, 0, none⟩)] ∧ Box w' Bf 3 #[.int .i64 fr] ∧ Box w' Bp 76 #[.slice a ts.length cap, .slice (some ⟨b, off, none⟩) cs.length capc] ∧ ∀ (i : Nat) u, cc.cs[i]? = some u → w'.cell? ⟨b, off + x.1 * 7 + i, none⟩ = some u) _ _ _ _ ?_)
        rw [← hV1]
        clear hV1
        refine wpAnyZI_reads (fun _ => trivial) 0 cD (by kernel_rfl) (by kernel_rfl) (by kernel_rfl) (by kernel_rfl) [13, 4, 3, 2] (by kernel_rfl) (by kernel_rfl) (by kernel_rfl) (by kernel_rfl) (fun d _ _ _ _ h => by cases d <;> exact h) (fun oi ho K hK => ?_)
        simp only [List.getElem?_toArray, List.getElem?_cons_zero, Option.some.injEq] at ho
        subst ho
        rw [if_pos (by kernel_rfl)]
        refine ⟨.int .i64 x.1, fun w' hw' => ?_, hK _ ?_⟩
        · obtain ⟨hxy, hxs, hxc, hxf, hxp, hxk⟩ := hw'
          have hy0 := hxy.one.1
          have hs0 := hxs.one.1
          have hc0 := hxc.one.1
          have hf0 := hxf.one.1
          obtain ⟨hp0, hp1⟩ := hxp.two
          go_simp
        clear hK K
        refine wpAnyZI_reads (fun _ => trivial) 1 cD (by kernel_rfl) (by kernel_rfl) (by kernel_rfl) (by kernel_rfl) [13, 4, 3, 2] (by kernel_rfl) (by kernel_rfl) (by kernel_rfl) (by kernel_rfl) (fun d _ _ _ _ h => by cases d <;> exact h) (fun oi ho K hK => ?_)
        simp only [List.getElem?_toArray, List.getElem?_cons_succ, List.getElem?_cons_zero, Option.some.injEq] at ho
        subst ho
        rw [if_pos (by kernel_rfl)]
        refine ⟨.int .i64 fr, fun w' hw' => ?_, hK _ ?_⟩
        · obtain ⟨hxy, hxs, hxc, hxf, hxp, hxk⟩ := hw'
          have hy0 := hxy.one.1
          have hs0 := hxs.one.1
          have hc0 := hxc.one.1
          have hf0 := hxf.one.1
          obtain ⟨hp0, hp1⟩ := hxp.two
          go_simp
        clear hK K
        refine wpAnyZI_reads (fun _ => trivial) 2 cD (by kernel_rfl) (by kernel_rfl) (by kernel_rfl) (by kernel_rfl) [13, 4, 3] (by kernel_rfl) (by kernel_rfl) (by kernel_rfl) (by kernel_rfl) (fun d _ _ _ _ h => by cases d <;> exact h) (fun oi ho K hK => ?_)
        simp only [List.getElem?_toArray, List.getElem?_cons_succ, List.getElem?_cons_zero, Option.some.injEq] at ho
        subst ho
        rw [if_pos (by kernel_rfl)]
        refine ⟨.bool true, fun w' hw' => ?_, hK _ ?_⟩
        · obtain ⟨hxy, hxs, hxc, hxf, hxp, hxk⟩ := hw'
          have hy0 := hxy.one.1
          have hs0 := hxs.one.1
          have hc0 := hxc.one.1
          have hf0 := hxf.one.1
          obtain ⟨hp0, hp1⟩ := hxp.two
          go_simp
        clear hK K
        refine wpAnyZI_reads (fun _ => trivial) 3 cD (by kernel_rfl) (by kernel_rfl) (by kernel_rfl) (by kernel_rfl) [13, 4] (by kernel_rfl) (by kernel_rfl) (by kernel_rfl) (by kernel_rfl) (fun d _ _ _ _ h => by cases d <;> exact h) (fun oi ho K hK => ?_)
        simp only [List.getElem?_toArray, List.getElem?_cons_succ, List.getElem?_cons_zero, Option.some.injEq] at ho
        subst ho
        rw [if_pos (by kernel_rfl)]
        refine ⟨.bool true, fun w' hw' => ?_, hK _ ?_⟩
        · obtain ⟨hxy, hxs, hxc, hxf, hxp, hxk⟩ := hw'
          have hy0 := hxy.one.1
          have hs0 := hxs.one.1
          have hc0 := hxc.one.1
          have hf0 := hxf.one.1
          obtain ⟨hp0, hp1⟩ := hxp.two
          go_simp
        clear hK K
        refine wpAnyZI_reads (fun _ => trivial) 4 cD (by kernel_rfl) (by kernel_rfl) (by kernel_rfl) (by kernel_rfl) [13] (by kernel_rfl) (by kernel_rfl) (by kernel_rfl) (by kernel_rfl) (fun d _ _ _ _ h => by cases d <;> exact h) (fun oi ho K hK => ?_)
        simp only [List.getElem?_toArray, List.getElem?_cons_succ, List.getElem?_cons_zero, Option.some.injEq] at ho
        subst ho
        rw [if_pos (by kernel_rfl)]
        refine ⟨.func (.yield l) #[] #[], fun w' hw' => ?_, hK _ ?_⟩
        · obtain ⟨hxy, hxs, hxc, hxf, hxp, hxk⟩ := hw'
          have hy0 := hxy.one.1
          have hs0 := hxs.one.1
          have hc0 := hxc.one.1
          have hf0 := hxf.one.1
          obtain ⟨hp0, hp1⟩ := hxp.two
          go_simp
        clear hK K
        refine wpAnyZI_reads (fun _ => trivial) 5 cD (by kernel_rfl) (by kernel_rfl) (by kernel_rfl) (by kernel_rfl) [13] (by kernel_rfl) (by kernel_rfl) (by kernel_rfl) (by kernel_rfl) (fun d _ _ _ _ h => by cases d <;> exact h) (fun oi ho K hK => ?_)
        simp only [List.getElem?_toArray, List.getElem?_cons_succ, List.getElem?_cons_zero, Option.some.injEq] at ho
        subst ho
        rw [if_pos (by kernel_rfl)]
        refine ⟨.agg #[.slice x.2.1 (vers ts cs x.1).length x.2.2], fun w' hw' => ?_, hK _ ?_⟩
        · obtain ⟨hxy, hxs, hxc, hxf, hxp, hxk⟩ := hw'
          have hy0 := hxy.one.1
          have hs0 := hxs.one.1
          have hc0 := hxc.one.1
          have hf0 := hxf.one.1
          obtain ⟨hp0, hp1⟩ := hxp.two
          go_simp
        clear hK K
        refine wpAnyZI_reads (fun _ => trivial) 6 cD (by kernel_rfl) (by kernel_rfl) (by kernel_rfl) (by kernel_rfl) [13, 12, 11, 9, 8, 7] (by kernel_rfl) (by kernel_rfl) (by kernel_rfl) (by kernel_rfl) (fun d _ _ _ _ h => by cases d <;> exact h) (fun oi ho K hK => ?_)
        simp only [List.getElem?_toArray, List.getElem?_cons_succ, List.getElem?_cons_zero, Option.some.injEq] at ho
        subst ho
        rw [if_pos (by kernel_rfl)]
        refine ⟨.pointer (some ⟨Bp, 0, none⟩), fun w' hw' => ?_, hK _ ?_⟩
        · obtain ⟨hxy, hxs, hxc, hxf, hxp, hxk⟩ := hw'
          have hy0 := hxy.one.1
          have hs0 := hxs.one.1
          have hc0 := hxc.one.1
          have hf0 := hxf.one.1
          obtain ⟨hp0, hp1⟩ := hxp.two
          go_simp
        clear hK K
        refine wpAnyZI_reads (fun _ => trivial) 7 cD (by kernel_rfl) (by kernel_rfl) (by kernel_rfl) (by kernel_rfl) [13, 12, 11, 9, 8] (by kernel_rfl) (by kernel_rfl) (by kernel_rfl) (by kernel_rfl) (fun d _ _ _ _ h => by cases d <;> exact h) (fun oi ho K hK => ?_)
        simp only [List.getElem?_toArray, List.getElem?_cons_succ, List.getElem?_cons_zero, Option.some.injEq] at ho
        subst ho
        rw [if_pos (by kernel_rfl)]
        refine ⟨.pointer (some ⟨Bp, 0, none⟩), fun w' hw' => ?_, hK _ ?_⟩
        · obtain ⟨hxy, hxs, hxc, hxf, hxp, hxk⟩ := hw'
          have hy0 := hxy.one.1
          have hs0 := hxs.one.1
          have hc0 := hxc.one.1
          have hf0 := hxf.one.1
          obtain ⟨hp0, hp1⟩ := hxp.two
          go_simp
        clear hK K
        refine wpAnyZI_reads (fun _ => trivial) 8 cD (by kernel_rfl) (by kernel_rfl) (by kernel_rfl) (by kernel_rfl) [13, 12, 11, 9] (by kernel_rfl) (by kernel_rfl) (by kernel_rfl) (by kernel_rfl) (fun d _ _ _ _ h => by cases d <;> exact h) (fun oi ho K hK => ?_)
        simp only [List.getElem?_toArray, List.getElem?_cons_succ, List.getElem?_cons_zero, Option.some.injEq] at ho
        subst ho
        rw [if_pos (by kernel_rfl)]
        refine ⟨.pointer (some ⟨Bp, 1, none⟩), fun w' hw' => ?_, hK _ ?_⟩
        · obtain ⟨hxy, hxs, hxc, hxf, hxp, hxk⟩ := hw'
          have hy0 := hxy.one.1
          have hs0 := hxs.one.1
          have hc0 := hxc.one.1
          have hf0 := hxf.one.1
          obtain ⟨hp0, hp1⟩ := hxp.two
          go_simp
        clear hK K
        refine wpAnyZI_reads (fun _ => trivial) 9 cD (by kernel_rfl) (by kernel_rfl) (by kernel_rfl) (by kernel_rfl) [13, 12, 11] (by kernel_rfl) (by kernel_rfl) (by kernel_rfl) (by kernel_rfl) (fun d _ _ _ _ h => by cases d <;> exact h) (fun oi ho K hK => ?_)
        simp only [List.getElem?_toArray, List.getElem?_cons_succ, List.getElem?_cons_zero, Option.some.injEq] at ho
        subst ho
        rw [if_pos (by kernel_rfl)]
        refine ⟨.slice (some ⟨b, off, none⟩) cs.length capc, fun w' hw' => ?_, hK _ ?_⟩
        · obtain ⟨hxy, hxs, hxc, hxf, hxp, hxk⟩ := hw'
          have hy0 := hxy.one.1
          have hs0 := hxs.one.1
          have hc0 := hxc.one.1
          have hf0 := hxf.one.1
          obtain ⟨hp0, hp1⟩ := hxp.two
          go_simp
        clear hK K
        refine wpAnyZI_reads (fun _ => trivial) 10 cD (by kernel_rfl) (by kernel_rfl) (by kernel_rfl) (by kernel_rfl) [13, 12, 11] (by kernel_rfl) (by kernel_rfl) (by kernel_rfl) (by kernel_rfl) (fun d _ _ _ _ h => by cases d <;> exact h) (fun oi ho K hK => ?_)
        simp only [List.getElem?_toArray, List.getElem?_cons_succ, List.getElem?_cons_zero, Option.some.injEq] at ho
        subst ho
        rw [if_pos (by kernel_rfl)]
        refine ⟨.int .i64 x.1, fun w' hw' => ?_, hK _ ?_⟩
        · obtain ⟨hxy, hxs, hxc, hxf, hxp, hxk⟩ := hw'
          have hy0 := hxy.one.1
          have hs0 := hxs.one.1
          have hc0 := hxc.one.1
          have hf0 := hxf.one.1
          obtain ⟨hp0, hp1⟩ := hxp.two
          go_simp
        clear hK K
        refine wpAnyZI_reads (fun _ => trivial) 11 cD (by kernel_rfl) (by kernel_rfl) (by kernel_rfl) (by kernel_rfl) [13, 12] (by kernel_rfl) (by kernel_rfl) (by kernel_rfl) (by kernel_rfl) (fun d _ _ _ _ h => by cases d <;> exact h) (fun oi ho K hK => ?_)
        simp only [List.getElem?_toArray, List.getElem?_cons_succ, List.getElem?_cons_zero, Option.some.injEq] at ho
        subst ho
        rw [if_pos (by kernel_rfl)]
        refine ⟨.pointer (some ⟨b, off + x.1 * 7, none⟩), fun w' hw' => ?_, hK _ ?_⟩
        · obtain ⟨hxy, hxs, hxc, hxf, hxp, hxk⟩ := hw'
          have hy0 := hxy.one.1
          have hs0 := hxs.one.1
          have hc0 := hxc.one.1
          have hf0 := hxf.one.1
          obtain ⟨hp0, hp1⟩ := hxp.two
          go_simp
        clear hK K
        refine wpAnyZI_reads (fun _ => trivial) 12 cD (by kernel_rfl) (by kernel_rfl) (by kernel_rfl) (by kernel_rfl) [13] (by kernel_rfl) (by kernel_rfl) (by kernel_rfl) (by kernel_rfl) (fun d _ _ _ _ h => by cases d <;> exact h) (fun oi ho K hK => ?_)
        simp only [List.getElem?_toArray, List.getElem?_cons_succ, List.getElem?_cons_zero, Option.some.injEq] at ho
        subst ho
        rw [if_pos (by kernel_rfl)]
        refine ⟨cc.v, fun w' hw' => ?_, hK _ ?_⟩
        · obtain ⟨hxy, hxs, hxc, hxf, hxp, hxk⟩ := hw'
          have hy0 := hxy.one.1
          have hs0 := hxs.one.1
          have hc0 := hxc.one.1
          have hf0 := hxf.one.1
          obtain ⟨hp0, hp1⟩ := hxp.two
          have hd0 := hxk 0 _ rfl
          have hd1 := hxk 1 _ rfl
          have hd2 := hxk 2 _ rfl
          have hd3 := hxk 3 _ rfl
          have hd4 := hxk 4 _ rfl
          have hd5 := hxk 5 _ rfl
          have hd6 := hxk 6 _ rfl
          rw [Nat.add_zero] at hd0
          go_simp
        clear hK K
        refine wpAnyZI_calls (fun _ => trivial) 13 (by kernel_rfl) (fun oi ho K hK => ?_)
        simp only [List.getElem?_toArray, List.getElem?_cons_succ, List.getElem?_cons_zero, Option.some.injEq] at ho
        subst ho
        replace hyy := unhide hyy
        go_simp
        refine ⟨fun _ => by omega, ?_⟩
        refine (unhide hR).mono ?_
        rintro e W3 ⟨bb, rfl, hbb⟩
        clear hR hyy
        go_simp
        refine hK _ _ (.inl (by kernel_rfl)) ?_
        clear hK K
        refine wpAnyZI_calls (fun _ => trivial) 14 (by kernel_rfl) (fun oi ho K hK => ?_)
        simp only [List.getElem?_toArray, List.getElem?_cons_succ, List.getElem?_cons_zero, Option.some.injEq] at ho
        subst ho
        go_simp
        refine hK _ _ (.inl (by kernel_rfl)) ?_
        clear hK K
        refine wpAnyZI_calls (fun _ => trivial) 15 (by kernel_rfl) (fun oi ho K hK => ?_)
        simp only [List.getElem?_toArray, List.getElem?_cons_succ, List.getElem?_cons_zero, Option.some.injEq] at ho
        subst ho
        go_simp
        refine hK _ _ (.inl (by kernel_rfl)) ?_
        clear hK K
        refine wpAnyZI_done (by kernel_rfl) ?_ _
        rcases unhide hbb with ⟨hkf, ⟨rfl, hJ3, hk3⟩ | ⟨rfl, hJx3⟩⟩
        · rw [unhide hd] at hJ3
          have last := hide (show KeepsFrom w2.heap.size V W3 ∧ KeepC X V W3 ∧ ((Box W3 W.heap.size 139 #[.func (.yield l) #[] #[]] ∧ Box W3 Bc 31 #[.pointer (some ⟨Bp, 0, none⟩)] ∧ Box W3 Bt 3 #[.int .i64 tv] ∧ Box W3 Bf 3 #[.int .i64 fr]) ∧ (w2.heap.size ≤ W3.heap.size ∧ IsCh n₀ W3 Bp a (some ⟨b, off, none⟩) cap capc ts cs) ∧ Hid ((pre ++ [x]).length ≤ tv) ∧ J ((pre ++ [x]).drop fr) W3) from
            ⟨((keeps_below bV).from _).trans ⟨hkf.size, fun k o hk h ho => hkf.same k o (Nat.le_trans b12.size hk) h ho⟩, (KeepC.below bV).trans hk3, ⟨hk3.box cD.1 (fun h => by have := (hX _ h).2; omega), hk3.box cD.2.2.1 hXc, hk3.box (ht.on bV ht.lt) hXt, hk3.box cD.2.2.2.1 hXf⟩, ⟨Nat.le_trans (Nat.le_trans hnV bV.size) hk3.size, CV1.keep hk3 hX0⟩, hide (by simp; omega), hJ3⟩)
          clear cD hJ hJx JV CV1 hj hCV hy hc ht hf hs hbb hJ3 hk3 hkf
          go_simp
          gi_wp2_with fail
          first
            | exact unhide last
            | (have h := unhide last; rw [e2] at h; exact h)
        · have last := hide (show KeepsFrom w2.heap.size V W3 ∧ Code.ret = Code.ret ∧ ((∃ xs, xs.length = tv - fr ∧ J xs W3) ∨ ∃ ls, Jx ls W3) from ⟨((keeps_below bV).from _).trans ⟨hkf.size, fun k o hk h ho => hkf.same k o (Nat.le_trans b12.size hk) h ho⟩, rfl, .inr ⟨_, hJx3⟩⟩)
          clear cD hJ hJx JV CV1 hj hCV hy hc ht hf hs hbb hJx3 hkf
          go_simp
          gi_wp2_with fail
          first
            | exact unhide last
            | (have h := unhide last; rw [e2] at h; exact h)
            | (have h := unhide last; rw [e2] at h; exact ⟨h.1, rfl, h.2.2⟩)
      · have hxf' : ¬ (fr : Int) ≤ x.1 := by omega
        have hfin := hide (show Hid ((pre ++ [x]).length ≤ tv) ∧ J ((pre ++ [x]).drop fr) V1 by
          refine ⟨hide (by simp; omega), ?_⟩
          rw [List.drop_of_length_le (by simp; omega)]
          rw [List.drop_of_length_le (by omega)] at JV
          exact JV)
        replace he1 := hide he1
        refine wpIn_region_any hmx (wpAnyIn_of_C (C := fun w' => Box w' W.heap.size 139 #[.func (.yield l) #[] #[]] ∧ Box w' Bs 24 #[.slice x.2.1 (vers ts cs x.1).length x.2.2] ∧ Box w' Bc 31 #[.pointer (some ⟨Bp, 0, none⟩)] ∧ Box w' Bf 3 #[.int .i64 fr] ∧ Box w' Bp 76 #[.slice a ts.length cap, .slice (some ⟨b, off, none⟩) cs.length capc] ∧ ∀ (i : Nat) u, (chn cs x.1).cs[i]? = some u → w'.cell? ⟨b, off + x.1 * 7 + i, none⟩ = some u) _ _ _ _ ?_)
        rw [← hV1]
        clear hV1
        refine wpAnyCI_reads (fun _ => trivial) 0 cD (by kernel_rfl) (by kernel_rfl) (by kernel_rfl) (by kernel_rfl) (fun d _ _ _ _ h => by cases d <;> exact h) (fun oi ho K hK => ?_)
        simp only [List.getElem?_toArray, List.getElem?_cons_zero, Option.some.injEq] at ho
        subst ho
        rw [if_pos (by kernel_rfl)]
        refine ⟨.int .i64 x.1, fun w' hw' => ?_, hK _ ?_⟩
        · obtain ⟨hxy, hxs, hxc, hxf, hxp, hxk⟩ := hw'
          have hy0 := hxy.one.1
          have hs0 := hxs.one.1
          have hc0 := hxc.one.1
          have hf0 := hxf.one.1
          obtain ⟨hp0, hp1⟩ := hxp.two
          go_simp
        clear hK K
        refine wpAnyCI_reads (fun _ => trivial) 1 cD (by kernel_rfl) (by kernel_rfl) (by kernel_rfl) (by kernel_rfl) (fun d _ _ _ _ h => by cases d <;> exact h) (fun oi ho K hK => ?_)
        simp only [List.getElem?_toArray, List.getElem?_cons_succ, List.getElem?_cons_zero, Option.some.injEq] at ho
        subst ho
        rw [if_pos (by kernel_rfl)]
        refine ⟨.int .i64 fr, fun w' hw' => ?_, hK _ ?_⟩
        · obtain ⟨hxy, hxs, hxc, hxf, hxp, hxk⟩ := hw'
          have hy0 := hxy.one.1
          have hs0 := hxs.one.1
          have hc0 := hxc.one.1
          have hf0 := hxf.one.1
          obtain ⟨hp0, hp1⟩ := hxp.two
          go_simp
        clear hK K
        refine wpAnyCI_reads (fun _ => trivial) 2 cD (by kernel_rfl) (by kernel_rfl) (by kernel_rfl) (by kernel_rfl) (fun d _ _ _ _ h => by cases d <;> exact h) (fun oi ho K hK => ?_)
        simp only [List.getElem?_toArray, List.getElem?_cons_succ, List.getElem?_cons_zero, Option.some.injEq] at ho
        subst ho
        rw [if_pos (by kernel_rfl)]
        refine ⟨.bool false, fun w' hw' => ?_, hK _ ?_⟩
        · obtain ⟨hxy, hxs, hxc, hxf, hxp, hxk⟩ := hw'
          have hy0 := hxy.one.1
          have hs0 := hxs.one.1
          have hc0 := hxc.one.1
          have hf0 := hxf.one.1
          obtain ⟨hp0, hp1⟩ := hxp.two
          go_simp
        clear hK K
        refine wpAnyCI_reads (fun _ => trivial) 3 cD (by kernel_rfl) (by kernel_rfl) (by kernel_rfl) (by kernel_rfl) (fun d _ _ _ _ h => by cases d <;> exact h) (fun oi ho K hK => ?_)
        simp only [List.getElem?_toArray, List.getElem?_cons_succ, List.getElem?_cons_zero, Option.some.injEq] at ho
        subst ho
        rw [if_pos (by kernel_rfl)]
        refine ⟨.bool false, fun w' hw' => ?_, hK _ ?_⟩
        · obtain ⟨hxy, hxs, hxc, hxf, hxp, hxk⟩ := hw'
          have hy0 := hxy.one.1
          have hs0 := hxs.one.1
          have hc0 := hxc.one.1
          have hf0 := hxf.one.1
          obtain ⟨hp0, hp1⟩ := hxp.two
          go_simp
        clear hK K
        refine wpAnyCI_reads (fun _ => trivial) 4 cD (by kernel_rfl) (by kernel_rfl) (by kernel_rfl) (by kernel_rfl) (fun d _ _ _ _ h => by cases d <;> exact h) (fun oi ho K hK => ?_)
        simp only [List.getElem?_toArray, List.getElem?_cons_succ, List.getElem?_cons_zero, Option.some.injEq] at ho
        subst ho
        rw [if_neg (Bool.eq_false_iff.1 (by kernel_rfl))]
        refine hK _ ?_
        clear hK K
        refine wpAnyCI_reads (fun _ => trivial) 5 cD (by kernel_rfl) (by kernel_rfl) (by kernel_rfl) (by kernel_rfl) (fun d _ _ _ _ h => by cases d <;> exact h) (fun oi ho K hK => ?_)
        simp only [List.getElem?_toArray, List.getElem?_cons_succ, List.getElem?_cons_zero, Option.some.injEq] at ho
        subst ho
        rw [if_neg (Bool.eq_false_iff.1 (by kernel_rfl))]
        refine hK _ ?_
        clear hK K
        refine wpAnyCI_reads (fun _ => trivial) 6 cD (by kernel_rfl) (by kernel_rfl) (by kernel_rfl) (by kernel_rfl) (fun d _ _ _ _ h => by cases d <;> exact h) (fun oi ho K hK => ?_)
        simp only [List.getElem?_toArray, List.getElem?_cons_succ, List.getElem?_cons_zero, Option.some.injEq] at ho
        subst ho
        rw [if_neg (Bool.eq_false_iff.1 (by kernel_rfl))]
        refine hK _ ?_
        clear hK K
        refine wpAnyCI_reads (fun _ => trivial) 7 cD (by kernel_rfl) (by kernel_rfl) (by kernel_rfl) (by kernel_rfl) (fun d _ _ _ _ h => by cases d <;> exact h) (fun oi ho K hK => ?_)
        simp only [List.getElem?_toArray, List.getElem?_cons_succ, List.getElem?_cons_zero, Option.some.injEq] at ho
        subst ho
        rw [if_neg (Bool.eq_false_iff.1 (by kernel_rfl))]
        refine hK _ ?_
        clear hK K
        refine wpAnyCI_reads (fun _ => trivial) 8 cD (by kernel_rfl) (by kernel_rfl) (by kernel_rfl) (by kernel_rfl) (fun d _ _ _ _ h => by cases d <;> exact h) (fun oi ho K hK => ?_)
        simp only [List.getElem?_toArray, List.getElem?_cons_succ, List.getElem?_cons_zero, Option.some.injEq] at ho
        subst ho
        rw [if_neg (Bool.eq_false_iff.1 (by kernel_rfl))]
        refine hK _ ?_
        clear hK K
        refine wpAnyCI_reads (fun _ => trivial) 9 cD (by kernel_rfl) (by kernel_rfl) (by kernel_rfl) (by kernel_rfl) (fun d _ _ _ _ h => by cases d <;> exact h) (fun oi ho K hK => ?_)
        simp only [List.getElem?_toArray, List.getElem?_cons_succ, List.getElem?_cons_zero, Option.some.injEq] at ho
        subst ho
        rw [if_neg (Bool.eq_false_iff.1 (by kernel_rfl))]
        refine hK _ ?_
        clear hK K
        refine wpAnyCI_reads (fun _ => trivial) 10 cD (by kernel_rfl) (by kernel_rfl) (by kernel_rfl) (by kernel_rfl) (fun d _ _ _ _ h => by cases d <;> exact h) (fun oi ho K hK => ?_)
        simp only [List.getElem?_toArray, List.getElem?_cons_succ, List.getElem?_cons_zero, Option.some.injEq] at ho
        subst ho
        rw [if_neg (Bool.eq_false_iff.1 (by kernel_rfl))]
        refine hK _ ?_
        clear hK K
        refine wpAnyCI_reads (fun _ => trivial) 11 cD (by kernel_rfl) (by kernel_rfl) (by kernel_rfl) (by kernel_rfl) (fun d _ _ _ _ h => by cases d <;> exact h) (fun oi ho K hK => ?_)
        simp only [List.getElem?_toArray, List.getElem?_cons_succ, List.getElem?_cons_zero, Option.some.injEq] at ho
        subst ho
        rw [if_neg (Bool.eq_false_iff.1 (by kernel_rfl))]
        refine hK _ ?_
        clear hK K
        refine wpAnyCI_reads (fun _ => trivial) 12 cD (by kernel_rfl) (by kernel_rfl) (by kernel_rfl) (by kernel_rfl) (fun d _ _ _ _ h => by cases d <;> exact h) (fun oi ho K hK => ?_)
        simp only [List.getElem?_toArray, List.getElem?_cons_succ, List.getElem?_cons_zero, Option.some.injEq] at ho
        subst ho
        rw [if_neg (Bool.eq_false_iff.1 (by kernel_rfl))]
        refine hK _ ?_
        clear hK K
        refine wpAnyCI_reads (fun _ => trivial) 13 cD (by kernel_rfl) (by kernel_rfl) (by kernel_rfl) (by kernel_rfl) (fun d _ _ _ _ h => by cases d <;> exact h) (fun oi ho K hK => ?_)
        simp only [List.getElem?_toArray, List.getElem?_cons_succ, List.getElem?_cons_zero, Option.some.injEq] at ho
        subst ho
        rw [if_neg (Bool.eq_false_iff.1 (by kernel_rfl))]
        refine hK _ ?_
        clear hK K
        refine wpAnyCI_reads (fun _ => trivial) 14 cD (by kernel_rfl) (by kernel_rfl) (by kernel_rfl) (by kernel_rfl) (fun d _ _ _ _ h => by cases d <;> exact h) (fun oi ho K hK => ?_)
        simp only [List.getElem?_toArray, List.getElem?_cons_succ, List.getElem?_cons_zero, Option.some.injEq] at ho
        subst ho
        rw [if_neg (Bool.eq_false_iff.1 (by kernel_rfl))]
        refine hK _ ?_
        clear hK K
        refine wpAnyCI_reads (fun _ => trivial) 15 cD (by kernel_rfl) (by kernel_rfl) (by kernel_rfl) (by kernel_rfl) (fun d _ _ _ _ h => by cases d <;> exact h) (fun oi ho K hK => ?_)
        simp only [List.getElem?_toArray, List.getElem?_cons_succ, List.getElem?_cons_zero, Option.some.injEq] at ho
        subst ho
        rw [if_pos (by kernel_rfl)]
        refine ⟨.bool false, fun w' hw' => ?_, hK _ ?_⟩
        · obtain ⟨hxy, hxs, hxc, hxf, hxp, hxk⟩ := hw'
          have hy0 := hxy.one.1
          have hs0 := hxs.one.1
          have hc0 := hxc.one.1
          have hf0 := hxf.one.1
          obtain ⟨hp0, hp1⟩ := hxp.two
          go_simp
        clear hK K
        refine wpAnyCI_done (by kernel_rfl) ?_ _
        have last := hide (show KeepsFrom w2.heap.size V V1 ∧ KeepC X V V1 ∧ ((Box V1 W.heap.size 139 #[.func (.yield l) #[] #[]] ∧ Box V1 Bc 31 #[.pointer (some ⟨Bp, 0, none⟩)] ∧ Box V1 Bt 3 #[.int .i64 tv] ∧ Box V1 Bf 3 #[.int .i64 fr]) ∧ (w2.heap.size ≤ V1.heap.size ∧ IsCh n₀ V1 Bp a (some ⟨b, off, none⟩) cap capc ts cs) ∧ Hid ((pre ++ [x]).length ≤ tv) ∧ J ((pre ++ [x]).drop fr) V1) from ⟨(keeps_below bV).from _, KeepC.below bV, ⟨cD.1, cD.2.2.1, ht.on bV ht.lt, cD.2.2.2.1⟩, ⟨Nat.le_trans hnV bV.size, CV1⟩, unhide hfin⟩)
        clear cD hcs hY hJ hJx JV CV1 hfin hj hCV hy hc ht hf hs
        go_simp
        gi_wp2_with fail
        first
          | exact unhide last
          | (have h := unhide last; rw [e2] at h; exact h)
  case done =>
    rintro D ys V hD hys ⟨⟨hy, hc, ht, hf⟩, ⟨hnV, hCV⟩, hp, hj⟩ hK
    have := unhide hp
    exfalso
    omega
  case stop =>
    rintro D c pre V hD - ⟨rfl, hr⟩ hK
    replace hr := hide hr
    gi_wp2_with fail
    refine ⟨by simp, .inl ⟨_, _, rfl, run_takeDeferred hK, ?_⟩⟩
    refine ⟨_, results_none rfl _ _ _, ⟨_, rfl⟩, ?_⟩
    rcases unhide hr with ⟨xs, h1, h2⟩ | ⟨ls, h2⟩
    · exact .inl ⟨xs, h1, (hJ.mono (by omega : W.heap.size ≤ w2.heap.size)).putObj _ h2 hD hK (okV_of _ rfl)⟩
    · exact .inr ⟨ls, (hJx.mono (by omega : W.heap.size ≤ w2.heap.size)).putObj _ h2 hD hK (okV_of _ rfl)⟩

end Go.Proofs.YtcjpaldijngnpaaGreatDoor

namespace Go.Proofs.YtcjpaldijngnpaaGreatDoor
open Go.RowKit Go.Shelf

attribute [local go_sem] Oper.semAt_some

theorem steps_c (Bp : Nat) (fr tv : Nat) (w : World) : Calls Tryz.prog 38 #[.pointer (some ⟨Bp, 0, none⟩), .int .i64 fr, .int .i64 tv] w fun e w' =>
    e = .returned (.func (.func 71) #[] #[.pointer (some ⟨w.heap.size, 0, none⟩), .pointer (some ⟨w.heap.size + 1 + 1, 0, none⟩), .pointer (some ⟨w.heap.size + 1, 0, none⟩)]) ∧ w'.heap.size = w.heap.size + 3 ∧ Below w.heap.size w w' ∧
    Box w' w.heap.size 31 #[.pointer (some ⟨Bp, 0, none⟩)] ∧ Box w' (w.heap.size + 1) 3 #[.int .i64 fr] ∧ Box w' (w.heap.size + 1 + 1) 3 #[.int .i64 tv] := by
  obtain ⟨W0, hW0⟩ : ∃ W0, W0 = ((w.alloc (.cells #[.pointer (some ⟨Bp, 0, none⟩)] 31)).alloc (.cells #[.int .i64 fr] 3)).alloc (.cells #[.int .i64 tv] 3) := ⟨_, rfl⟩
  have e0 : W0.heap.size = w.heap.size + 3 := by rw [hW0]; simp
  have b0 : Below w.heap.size w W0 := by rw [hW0]; exact (((Below.refl _ _).alloc (Nat.le_refl _) _).alloc (by simp) _).alloc (by simp; omega) _
  have x3 : Box W0 w.heap.size 31 #[.pointer (some ⟨Bp, 0, none⟩)] := by rw [hW0]; exact ((Box.new w 31 #[.pointer (some ⟨Bp, 0, none⟩)]).alloc _).alloc _
  have x4 : Box W0 (w.heap.size + 1) 3 #[.int .i64 fr] := by
    have := Box.new (w.alloc (.cells #[.pointer (some ⟨Bp, 0, none⟩)] 31)) 3 #[.int .i64 fr]
    simp only [World.size_alloc] at this
    rw [hW0]; exact this.alloc _
  have x5 : Box W0 (w.heap.size + 1 + 1) 3 #[.int .i64 tv] := by
    have := Box.new ((w.alloc (.cells #[.pointer (some ⟨Bp, 0, none⟩)] 31)).alloc (.cells #[.int .i64 fr] 3)) 3 #[.int .i64 tv]
    simp only [World.size_alloc] at this
    rw [hW0]; exact this
  replace hW0 := hide hW0
  go_enter Tryz.func38, Tryz.ntmps38
  go_wp2
  go_ret
  rw [← unhide hW0]
  exact ⟨rfl, e0, b0, x3, x4, x5⟩

theorem steps_told (n : Nat) (hn : 3 ≤ n) (Bc Bt Bf Bp n₀ cap capc : Nat) (a ac : Option Addr) (ts : List Ty) (cs : List Ch) (fr tv : Nat) (hft : fr ≤ tv) (hto : tv ≤ cs.length) (hS : Sch ts) (h20 : cs.length ≤ 20) (X : Nat → Prop) (w : World) (hn₀ : n₀ ≤ w.heap.size) (hX : ∀ k, X k → n₀ ≤ k ∧ k < w.heap.size)
    (hBc : Box w Bc 31 #[.pointer (some ⟨Bp, 0, none⟩)]) (hBt : Box w Bt 3 #[.int .i64 tv]) (hBf : Box w Bf 3 #[.int .i64 fr]) (hXc : ¬ X Bc) (hXt : ¬ X Bt) (hXf : ¬ X Bf) (hC : IsCh n₀ w Bp a ac cap capc ts cs) :
    SeqTold okV Fence.wide n Tryz.prog 71 #[.pointer (some ⟨Bc, 0, none⟩), .pointer (some ⟨Bt, 0, none⟩), .pointer (some ⟨Bf, 0, none⟩)] (stV ts cs) (KeepC X) (ElS ts cs fr tv w.heap.size) (fun xs => xs.length = tv - fr) (fun _ => True) w := fun l J Jx W hW hJ hJx hY h0 => by
  refine (steps1_told n hn l Bc Bt Bf Bp n₀ cap capc a ac ts cs fr tv hft hto hS h20 X J Jx W hJ hJx w.heap.size hW.size hY (Nat.le_trans hn₀ hW.size) hX (hBc.on hW hBc.lt) (hBt.on hW hBt.lt) (hBf.on hW hBf.lt) hXc hXt hXf (hC.on (hW.mono hn₀)) h0).mono ?_
  rintro e W' ⟨he, ⟨xs, h1, h2⟩ | ⟨pre, h2⟩⟩
  · exact ⟨he, .inl ⟨xs, h1, h2⟩⟩
  · exact ⟨he, .inr ⟨pre, trivial, h2⟩⟩

end Go.Proofs.YtcjpaldijngnpaaGreatDoor

namespace Go.Proofs.YtcjpaldijngnpaaGreatDoor
open Go.RowKit Go.Shelf


set_option maxRecDepth 100000 in
set_option maxHeartbeats 4000000 in
theorem move_o (a av : Option Addr) (cap cv : Nat) (ts : List Ty) (c : Ch) (x : Ev) (h5 : ts.length ≤ 5) (hk5 : ∀ k, (ty ts k).2.length ≤ 5) (h20 : x.vs.length ≤ 20) (w : World) (hT : Typs w.heap.size w a ts) (hV : Vals w.heap.size w av x.vs) :
    Calls Tryz.prog 39 #[.agg #[.slice a ts.length cap], c.v, .agg #[.string x.ty.1, .int .i64 x.ts, .slice av x.vs.length cv]] w fun e w' => ∃ a' c', e = .returned (.agg #[.string x.ty.1, .int .i64 x.ts, .slice a' (movE ts c x).vs.length c']) ∧ w'.ownsRow w.heap.size 40 3 (.slice a' (movE ts c x).vs.length c') (movE ts c x).vs.length (newsV (movE ts c x).vs) ∧ Below w.heap.size w w' := by
  obtain ⟨t, tm, vs⟩ := x
  simp only at h20 hV ⊢
  obtain ⟨W0, hW0⟩ : ∃ W0, W0 = ((((w.alloc (.cells #[.slice a ts.length cap] 24)).alloc (.cells c.cs 42)).alloc (.cells #[.string t.1, .int .i64 tm, .slice av vs.length cv] 28)).alloc (.cells #[.string ⟨#[]⟩, .int .i64 0, .slice none 0 0] 28)) := ⟨_, rfl⟩
  have e0 : W0.heap.size = w.heap.size + 4 := by rw [hW0]; simp
  have b0 : Below w.heap.size w W0 := by rw [hW0]; exact ((((Below.refl _ _).alloc (Nat.le_refl _) _).alloc (by simp) _).alloc (by simp; omega) _).alloc (by simp; omega) _
  have x3 : Box W0 w.heap.size 24 #[.slice a ts.length cap] := by
    rw [hW0]; exact (((Box.new w 24 #[.slice a ts.length cap]).alloc _).alloc _).alloc _
  have x4 : Box W0 (w.heap.size + 1) 42 c.cs := by
    have := Box.new (w.alloc (.cells #[.slice a ts.length cap] 24)) 42 c.cs
    simp only [World.size_alloc] at this
    rw [hW0]; exact (this.alloc _).alloc _
  have x5 : Box W0 (w.heap.size + 1 + 1) 28 #[.string t.1, .int .i64 tm, .slice av vs.length cv] := by
    have := Box.new ((w.alloc (.cells #[.slice a ts.length cap] 24)).alloc (.cells c.cs 42)) 28 #[.string t.1, .int .i64 tm, .slice av vs.length cv]
    simp only [World.size_alloc] at this
    rw [hW0]; exact this.alloc _
  have x6 : Box W0 (w.heap.size + 1 + 1 + 1) 28 #[.string ⟨#[]⟩, .int .i64 0, .slice none 0 0] := by
    have := Box.new (((w.alloc (.cells #[.slice a ts.length cap] 24)).alloc (.cells c.cs 42)).alloc (.cells #[.string t.1, .int .i64 tm, .slice av vs.length cv] 28)) 28 #[.string ⟨#[]⟩, .int .i64 0, .slice none 0 0]
    simp only [World.size_alloc] at this
    rw [hW0]; exact this
  have T0 := hT.on b0
  have V0 := hV.on b0
  have hW0' := hide hW0
  clear hW0
  cases hp : placeN (tnames ts) t.1 with
  | none =>
    have eM := hide (show (movE ts c ⟨t, tm, vs⟩).vs = vs by simp [movE, hp])
    go_enter Tryz.func39, Tryz.ntmps39
    go_wp2_with fail
    rw [show Obj.cells #[Value.int .i64 c.k, .string c.t.1, .string c.f.1, .string c.o.1, .int .i64 c.dk, .int .i64 c.dn, .string c.ds.1] 42 = Obj.cells c.cs 42 from rfl, ← unhide hW0']
    refine (find_none a cap ts t.1 h5 _ T0 hp).mono ?_
    rintro e w1 ⟨rfl, hb1⟩
    have bA : Below w1.heap.size w1 (w1.alloc (.cells #[.string ⟨#[]⟩, .slice none 0 0] 69)) := (Below.refl _ _).alloc (Nat.le_refl _) _
    have q1 := hb1.trans (bA.mono hb1.size)
    have y5 := x5.on q1 x5.lt
    have y6 := x6.on q1 x6.lt
    have V1 := V0.on q1
    have b1 := b0.trans (q1.mono b0.size)
    obtain ⟨he0, he1, he2⟩ := y5.three
    go_wp2_with fail
    refine (copy_c t.1 tm av cv vs h20 _ V1).mono ?_
    rintro e w9 ⟨a9, c9, rfl, ho, hb9⟩
    have t6 := y6.on hb9 y6.lt
    obtain ⟨hr0, hr1, hr2⟩ := t6.three
    have hf0 := t6.frz 0
    have hf1 := t6.frz 1
    have hf2 := t6.frz 2
    have s6 := ((t6.set 0 (.string t.1)).set 1 (.int .i64 tm)).set 2 (.slice a9 vs.length c9)
    have hsz := y6.lt
    have o6 := owns_set (owns_set (owns_set ho ⟨w.heap.size + 1 + 1 + 1, 0, none⟩ (.string t.1) hsz) ⟨w.heap.size + 1 + 1 + 1, 1, none⟩ (.int .i64 tm) hsz) ⟨w.heap.size + 1 + 1 + 1, 2, none⟩ (.slice a9 vs.length c9) hsz
    replace o6 := hide o6
    clear he0 he1 he2 ho
    go_wp2_with fail
    obtain ⟨hk0, hk1, hk2⟩ := s6.three
    refine bodyPost_ret (v := .agg #[.string t.1, .int .i64 tm, .slice a9 vs.length c9]) (by simp [results, Tryz.results39, go_sem, hk0, hk1, hk2]) rfl ⟨a9, c9, by rw [unhide eM], ?_, ?_⟩
    · rw [unhide eM]
      refine owns_base ?_ (unhide o6)
      first | omega | (have := b0.size; omega) | (have := b2.size; omega) | (have := b0.size; have := hb1.size; omega) | (simp only [World.size_drew]; omega) | (simp only [World.size_drew]; have := b2.size; have := hb3.size; omega) | (have := b0.size; have := q1.size; omega) | (have := b0.size; have := q1.size; have := hb2.size; have := hb3.size; (try simp only [World.size_drew]); omega)
    · have b4 := b1.trans (hb9.mono b1.size)
      exact ((b4.setCell (p := ⟨w.heap.size + 1 + 1 + 1, 0, none⟩) (by simp only; omega) _).setCell (p := ⟨w.heap.size + 1 + 1 + 1, 1, none⟩) (by simp only; omega) _).setCell (p := ⟨w.heap.size + 1 + 1 + 1, 2, none⟩) (by simp only; omega) _
  | some k =>
    by_cases hr0 : refE ts c = 0
    · have cR := fun W h => refusal_c a cap ts c h5 hk5 W h
      rw [hr0, errE_zero] at cR
      replace cR := hide cR
      by_cases hi0 : isE ts ⟨t, tm, vs⟩ = 0
      · have cI := fun W h h' => is_c a av cap cv ts ⟨t, tm, vs⟩ h5 hk5 h20 W h h'
        rw [hi0, errE_zero] at cI
        replace cI := hide cI
        have hlen := isE_len (x := ⟨t, tm, vs⟩) hp hi0
        simp only at hlen
        have eM := hide (show (movE ts c ⟨t, tm, vs⟩).vs = vNew (ty ts k).1 c (ty ts k).2 vs by simp [movE, hp, hr0, hi0])
        clear hr0 hi0
        obtain ⟨N, hN⟩ : ∃ N, N = (movE ts c ⟨t, tm, vs⟩).vs := ⟨_, rfl⟩
        rw [← hN] at eM ⊢
        clear hN
        have hlen' := hide hlen
        clear hlen
        go_enter Tryz.func39, Tryz.ntmps39
        go_wp2_with fail
        rw [show Obj.cells #[Value.int .i64 c.k, .string c.t.1, .string c.f.1, .string c.o.1, .int .i64 c.dk, .int .i64 c.dn, .string c.ds.1] 42 = Obj.cells c.cs 42 from rfl, ← unhide hW0']
        refine (find_some a cap ts t.1 k h5 _ T0 hp (hk5 k)).mono ?_
        rintro e w1 ⟨a', c', rfl, ⟨hF, -⟩, hb1⟩
        have bA : Below w1.heap.size w1 (w1.alloc (.cells #[.string (ty ts k).1.1, .slice a' (ty ts k).2.length c'] 69)) := (Below.refl _ _).alloc (Nat.le_refl _) _
        have q1 := hb1.trans (bA.mono hb1.size)
        have y3 := x3.on q1 x3.lt
        have y4 := x4.on q1 x4.lt
        have y5 := x5.on q1 x5.lt
        have y6 := x6.on q1 x6.lt
        have y7 := Box.new w1 69 #[.string (ty ts k).1.1, .slice a' (ty ts k).2.length c']
        have F1 := hF.on bA
        have T1 := T0.on q1
        have V1 := V0.on q1
        have cR1 := hide (unhide cR _ T1)
        have hs := y3.one.1
        obtain ⟨hc0, hc1, hc2, hc3, hc4, hc5, hc6⟩ := y4.seven
        clear hF
        go_wp2_with fail
        refine (unhide cR1).mono ?_
        rintro e w2 ⟨rfl, hb2⟩
        have q2 := q1.trans (hb2.mono q1.size)
        have z3 := y3.on hb2 y3.lt
        have z4 := y4.on hb2 y4.lt
        have z5 := y5.on hb2 y5.lt
        have z6 := y6.on hb2 y6.lt
        have z7 := y7.on hb2 y7.lt
        have F2 := F1.on hb2
        have T2 := T1.on hb2
        have V2 := V1.on hb2
        have cI2 := hide (unhide cI _ T2 V2)
        clear hs hc0 hc1 hc2 hc3 hc4 hc5 hc6
        have hs := z3.one.1
        obtain ⟨he0, he1, he2⟩ := z5.three
        go_wp2_with fail
        refine (unhide cI2).mono ?_
        rintro e w3 ⟨rfl, hb3⟩
        have q3 := q2.trans (hb3.mono q2.size)
        have u4 := z4.on hb3 z4.lt
        have u5 := z5.on hb3 z5.lt
        have u6 := z6.on hb3 z6.lt
        have u7 := z7.on hb3 z7.lt
        have F3 := F2.on hb3
        have V3 := V2.on hb3
        clear hs he0 he1 he2
        obtain ⟨hc0, hc1, hc2, hc3, hc4, hc5, hc6⟩ := u4.seven
        obtain ⟨he0, he1, he2⟩ := u5.three
        obtain ⟨ht0, ht1⟩ := u7.two
        have bD : Below w3.heap.size w3 w3.drew := (Below.refl _ _).drew
        have cM := hide (moved_c (ty ts k).1 a' av c' cv (ty ts k).2 vs c (hk5 k) (unhide hlen') w3.drew (F3.on bD) (V3.on bD))
        clear F3 V3 F2 V2 F1 V1 T2 T1 cI2 cR1 cI cR
        have v4 := u4.drew
        have v5 := u5.drew
        have v6 := u6.drew
        have v7 := u7.drew
        have hmx : Tryz.prog.follows .mixedOrders = true := by kernel_rfl
        go_wp2_with fail
        refine wp_region_any hmx (wpAny_of_C (C := fun w' => Box w' (w.heap.size + 1) 42 c.cs ∧ Box w' (w.heap.size + 1 + 1) 28 #[.string t.1, .int .i64 tm, .slice av vs.length cv] ∧ Box w' w1.heap.size 69 #[.string (ty ts k).1.1, .slice a' (ty ts k).2.length c']) _ _ _ _ ?_)
        have hC : Box w3.drew (w.heap.size + 1) 42 c.cs ∧ Box w3.drew (w.heap.size + 1 + 1) 28 #[.string t.1, .int .i64 tm, .slice av vs.length cv] ∧ Box w3.drew w1.heap.size 69 #[.string (ty ts k).1.1, .slice a' (ty ts k).2.length c'] := ⟨v4, v5, v7⟩
        clear hc0 hc1 hc2 hc3 hc4 hc5 hc6 he0 he1 he2 ht0 ht1
        refine wpAnyC_reads 0 hC (by kernel_rfl) (by kernel_rfl) (by kernel_rfl) (fun d _ _ _ _ h => by cases d <;> exact h) (fun oi ho K hK => ?_)
        simp only [List.getElem?_toArray, List.getElem?_cons_zero, Option.some.injEq] at ho
        subst ho
        rw [if_pos (by kernel_rfl)]
        refine ⟨.pointer (some ⟨w.heap.size + 1 + 1, 0, none⟩), fun w' hw' => ?_, hK _ ?_⟩
        · obtain ⟨hx4, hx5, hx7⟩ := hw'
          obtain ⟨hc0, hc1, hc2, hc3, hc4, hc5, hc6⟩ := hx4.seven
          obtain ⟨he0, he1, he2⟩ := hx5.three
          obtain ⟨ht0, ht1⟩ := hx7.two
          go_simp
        clear hK K
        refine wpAnyC_reads 1 hC (by kernel_rfl) (by kernel_rfl) (by kernel_rfl) (fun d _ _ _ _ h => by cases d <;> exact h) (fun oi ho K hK => ?_)
        simp only [List.getElem?_toArray, List.getElem?_cons_succ, List.getElem?_cons_zero, Option.some.injEq] at ho
        subst ho
        rw [if_pos (by kernel_rfl)]
        refine ⟨.string t.1, fun w' hw' => ?_, hK _ ?_⟩
        · obtain ⟨hx4, hx5, hx7⟩ := hw'
          obtain ⟨hc0, hc1, hc2, hc3, hc4, hc5, hc6⟩ := hx4.seven
          obtain ⟨he0, he1, he2⟩ := hx5.three
          obtain ⟨ht0, ht1⟩ := hx7.two
          go_simp
        clear hK K
        refine wpAnyC_reads 2 hC (by kernel_rfl) (by kernel_rfl) (by kernel_rfl) (fun d _ _ _ _ h => by cases d <;> exact h) (fun oi ho K hK => ?_)
        simp only [List.getElem?_toArray, List.getElem?_cons_succ, List.getElem?_cons_zero, Option.some.injEq] at ho
        subst ho
        rw [if_pos (by kernel_rfl)]
        refine ⟨.pointer (some ⟨w.heap.size + 1 + 1, 1, none⟩), fun w' hw' => ?_, hK _ ?_⟩
        · obtain ⟨hx4, hx5, hx7⟩ := hw'
          obtain ⟨hc0, hc1, hc2, hc3, hc4, hc5, hc6⟩ := hx4.seven
          obtain ⟨he0, he1, he2⟩ := hx5.three
          obtain ⟨ht0, ht1⟩ := hx7.two
          go_simp
        clear hK K
        refine wpAnyC_reads 3 hC (by kernel_rfl) (by kernel_rfl) (by kernel_rfl) (fun d _ _ _ _ h => by cases d <;> exact h) (fun oi ho K hK => ?_)
        simp only [List.getElem?_toArray, List.getElem?_cons_succ, List.getElem?_cons_zero, Option.some.injEq] at ho
        subst ho
        rw [if_pos (by kernel_rfl)]
        refine ⟨.int .i64 tm, fun w' hw' => ?_, hK _ ?_⟩
        · obtain ⟨hx4, hx5, hx7⟩ := hw'
          obtain ⟨hc0, hc1, hc2, hc3, hc4, hc5, hc6⟩ := hx4.seven
          obtain ⟨he0, he1, he2⟩ := hx5.three
          obtain ⟨ht0, ht1⟩ := hx7.two
          go_simp
        clear hK K
        refine wpAnyC_reads 4 hC (by kernel_rfl) (by kernel_rfl) (by kernel_rfl) (fun d _ _ _ _ h => by cases d <;> exact h) (fun oi ho K hK => ?_)
        simp only [List.getElem?_toArray, List.getElem?_cons_succ, List.getElem?_cons_zero, Option.some.injEq] at ho
        subst ho
        rw [if_pos (by kernel_rfl)]
        refine ⟨.agg #[.string (ty ts k).1.1, .slice a' (ty ts k).2.length c'], fun w' hw' => ?_, hK _ ?_⟩
        · obtain ⟨hx4, hx5, hx7⟩ := hw'
          obtain ⟨hc0, hc1, hc2, hc3, hc4, hc5, hc6⟩ := hx4.seven
          obtain ⟨he0, he1, he2⟩ := hx5.three
          obtain ⟨ht0, ht1⟩ := hx7.two
          go_simp
        clear hK K
        refine wpAnyC_reads 5 hC (by kernel_rfl) (by kernel_rfl) (by kernel_rfl) (fun d _ _ _ _ h => by cases d <;> exact h) (fun oi ho K hK => ?_)
        simp only [List.getElem?_toArray, List.getElem?_cons_succ, List.getElem?_cons_zero, Option.some.injEq] at ho
        subst ho
        rw [if_pos (by kernel_rfl)]
        refine ⟨c.v, fun w' hw' => ?_, hK _ ?_⟩
        · obtain ⟨hx4, hx5, hx7⟩ := hw'
          obtain ⟨hc0, hc1, hc2, hc3, hc4, hc5, hc6⟩ := hx4.seven
          obtain ⟨he0, he1, he2⟩ := hx5.three
          obtain ⟨ht0, ht1⟩ := hx7.two
          go_simp
        clear hK K
        refine wpAnyC_reads 6 hC (by kernel_rfl) (by kernel_rfl) (by kernel_rfl) (fun d _ _ _ _ h => by cases d <;> exact h) (fun oi ho K hK => ?_)
        simp only [List.getElem?_toArray, List.getElem?_cons_succ, List.getElem?_cons_zero, Option.some.injEq] at ho
        subst ho
        rw [if_pos (by kernel_rfl)]
        refine ⟨.pointer (some ⟨w.heap.size + 1 + 1, 2, none⟩), fun w' hw' => ?_, hK _ ?_⟩
        · obtain ⟨hx4, hx5, hx7⟩ := hw'
          obtain ⟨hc0, hc1, hc2, hc3, hc4, hc5, hc6⟩ := hx4.seven
          obtain ⟨he0, he1, he2⟩ := hx5.three
          obtain ⟨ht0, ht1⟩ := hx7.two
          go_simp
        clear hK K
        refine wpAnyC_reads 7 hC (by kernel_rfl) (by kernel_rfl) (by kernel_rfl) (fun d _ _ _ _ h => by cases d <;> exact h) (fun oi ho K hK => ?_)
        simp only [List.getElem?_toArray, List.getElem?_cons_succ, List.getElem?_cons_zero, Option.some.injEq] at ho
        subst ho
        rw [if_pos (by kernel_rfl)]
        refine ⟨.slice av vs.length cv, fun w' hw' => ?_, hK _ ?_⟩
        · obtain ⟨hx4, hx5, hx7⟩ := hw'
          obtain ⟨hc0, hc1, hc2, hc3, hc4, hc5, hc6⟩ := hx4.seven
          obtain ⟨he0, he1, he2⟩ := hx5.three
          obtain ⟨ht0, ht1⟩ := hx7.two
          go_simp
        clear hK K
        refine wpAnyC_calls 8 (by kernel_rfl) (fun oi ho K hK => ?_)
        simp only [List.getElem?_toArray, List.getElem?_cons_succ, List.getElem?_cons_zero, Option.some.injEq] at ho
        subst ho
        go_simp
        refine (unhide cM).mono ?_
        rintro e w4 ⟨v, rfl, ho, hb4⟩
        rw [← unhide eM] at ho
        obtain ⟨a4, c4, rfl, -, -⟩ := vals_of_owns ho
        replace ho := hide ho
        go_simp
        have t4 := v4.on hb4 v4.lt
        have t5 := v5.on hb4 v5.lt
        have t6 := v6.on hb4 v6.lt
        have t7 := v7.on hb4 v7.lt
        refine hK _ _ ⟨t4, t5, t7⟩ ?_
        clear hK K cM hC
        refine wpAnyC_reads 9 ⟨t4, t5, t7⟩ (by kernel_rfl) (by kernel_rfl) (by kernel_rfl) (fun d _ _ _ _ h => by cases d <;> exact h) (fun oi ho K hK => ?_)
        simp only [List.getElem?_toArray, List.getElem?_cons_succ, List.getElem?_cons_zero, Option.some.injEq] at ho
        subst ho
        rw [if_pos (by kernel_rfl)]
        refine ⟨.agg #[.string t.1, .int .i64 tm, .slice a4 N.length c4], fun w' hw' => ?_, hK _ ?_⟩
        · clear hw'
          go_simp
        clear hK K
        obtain ⟨hr0, hr1, hr2⟩ := t6.three
        have hf0 := t6.frz 0
        have hf1 := t6.frz 1
        have hf2 := t6.frz 2
        have s6 := ((t6.set 0 (.string t.1)).set 1 (.int .i64 tm)).set 2 (.slice a4 N.length c4)
        have hsz : w.heap.size + 1 + 1 + 1 < w3.heap.size := u6.lt
        have hs7 := u7.lt
        have hw17 : w.heap.size + 4 ≤ w1.heap.size := by have := hb1.size; omega
        have s4 := ((t4.other ⟨w.heap.size + 1 + 1 + 1, 0, none⟩ (.string t.1) (by simp only; omega)).other ⟨w.heap.size + 1 + 1 + 1, 1, none⟩ (.int .i64 tm) (by simp only; omega)).other ⟨w.heap.size + 1 + 1 + 1, 2, none⟩ (.slice a4 N.length c4) (by simp only; omega)
        have s5 := ((t5.other ⟨w.heap.size + 1 + 1 + 1, 0, none⟩ (.string t.1) (by simp only; omega)).other ⟨w.heap.size + 1 + 1 + 1, 1, none⟩ (.int .i64 tm) (by simp only; omega)).other ⟨w.heap.size + 1 + 1 + 1, 2, none⟩ (.slice a4 N.length c4) (by simp only; omega)
        have s7 := ((t7.other ⟨w.heap.size + 1 + 1 + 1, 0, none⟩ (.string t.1) (by simp only; omega)).other ⟨w.heap.size + 1 + 1 + 1, 1, none⟩ (.int .i64 tm) (by simp only; omega)).other ⟨w.heap.size + 1 + 1 + 1, 2, none⟩ (.slice a4 N.length c4) (by simp only; omega)
        have o6 := owns_set (owns_set (owns_set (unhide ho) ⟨w.heap.size + 1 + 1 + 1, 0, none⟩ (.string t.1) (by simp only [World.size_drew]; omega)) ⟨w.heap.size + 1 + 1 + 1, 1, none⟩ (.int .i64 tm) (by simp only [World.size_drew]; omega)) ⟨w.heap.size + 1 + 1 + 1, 2, none⟩ (.slice a4 N.length c4) (by simp only [World.size_drew]; omega)
        replace o6 := hide o6
        refine wpAnyC_calls 10 (by kernel_rfl) (fun oi ho K hK => ?_)
        simp only [List.getElem?_toArray, List.getElem?_cons_succ, List.getElem?_cons_zero, Option.some.injEq] at ho
        subst ho
        go_simp
        refine hK _ _ ⟨s4, s5, s7⟩ ?_
        clear hK K
        refine wpAnyC_done (by kernel_rfl) ?_ _
        go_wp2
        obtain ⟨hk0, hk1, hk2⟩ := s6.three
        refine bodyPost_ret (v := .agg #[.string t.1, .int .i64 tm, .slice a4 N.length c4]) (by simp [results, Tryz.results39, go_sem, hk0, hk1, hk2]) rfl ⟨a4, c4, rfl, ?_, ?_⟩
        · refine owns_base ?_ (unhide o6)
          first | omega | (have := b0.size; omega) | (have := b2.size; omega) | (have := b0.size; have := hb1.size; omega) | (simp only [World.size_drew]; omega) | (simp only [World.size_drew]; have := b2.size; have := hb3.size; omega) | (have := b0.size; have := q1.size; omega) | (have := b0.size; have := q1.size; have := hb2.size; have := hb3.size; (try simp only [World.size_drew]); omega)
        · have b3 := b0.trans (q3.mono b0.size)
          have b4 := b3.trans ((bD.trans (hb4.mono bD.size)).mono b3.size)
          exact ((b4.setCell (p := ⟨w.heap.size + 1 + 1 + 1, 0, none⟩) (by simp only; omega) _).setCell (p := ⟨w.heap.size + 1 + 1 + 1, 1, none⟩) (by simp only; omega) _).setCell (p := ⟨w.heap.size + 1 + 1 + 1, 2, none⟩) (by simp only; omega) _
      · have cI := fun W h h' => is_c a av cap cv ts ⟨t, tm, vs⟩ h5 hk5 h20 W h h'
        rw [errE_no hi0] at cI
        replace cI := hide cI
        have eM := hide (show (movE ts c ⟨t, tm, vs⟩).vs = vs by simp [movE, hp, hi0])
        clear hr0
        obtain ⟨en, hen⟩ : ∃ en, en = isE ts ⟨t, tm, vs⟩ := ⟨_, rfl⟩
        rw [← hen] at cI
        clear hen hi0
        go_enter Tryz.func39, Tryz.ntmps39
        go_wp2_with fail
        rw [show Obj.cells #[Value.int .i64 c.k, .string c.t.1, .string c.f.1, .string c.o.1, .int .i64 c.dk, .int .i64 c.dn, .string c.ds.1] 42 = Obj.cells c.cs 42 from rfl, ← unhide hW0']
        refine (find_some a cap ts t.1 k h5 _ T0 hp (hk5 k)).mono ?_
        rintro e w1 ⟨a', c', rfl, -, hb1⟩
        have bA : Below w1.heap.size w1 (w1.alloc (.cells #[.string (ty ts k).1.1, .slice a' (ty ts k).2.length c'] 69)) := (Below.refl _ _).alloc (Nat.le_refl _) _
        have q1 := hb1.trans (bA.mono hb1.size)
        have y3 := x3.on q1 x3.lt
        have y4 := x4.on q1 x4.lt
        have y5 := x5.on q1 x5.lt
        have y6 := x6.on q1 x6.lt
        have T1 := T0.on q1
        have V1 := V0.on q1
        have cR1 := hide (unhide cR _ T1)
        have hs := y3.one.1
        obtain ⟨hc0, hc1, hc2, hc3, hc4, hc5, hc6⟩ := y4.seven
        go_wp2_with fail
        refine (unhide cR1).mono ?_
        rintro e w2 ⟨rfl, hb2⟩
        have q2 := q1.trans (hb2.mono q1.size)
        have z3 := y3.on hb2 y3.lt
        have z5 := y5.on hb2 y5.lt
        have z6 := y6.on hb2 y6.lt
        have T2 := T1.on hb2
        have V2 := V1.on hb2
        have cI2 := hide (unhide cI _ T2 V2)
        clear hs hc0 hc1 hc2 hc3 hc4 hc5 hc6
        have hs := z3.one.1
        obtain ⟨he0, he1, he2⟩ := z5.three
        go_wp2_with fail
        refine (unhide cI2).mono ?_
        rintro e w3 ⟨rfl, hb3⟩
        have q3 := q2.trans (hb3.mono q2.size)
        have u5 := z5.on hb3 z5.lt
        have u6 := z6.on hb3 z6.lt
        have V3 := V2.on hb3
        have b3 := b0.trans (q3.mono b0.size)
        clear hs he0 he1 he2
        obtain ⟨he0, he1, he2⟩ := u5.three
        go_wp2_with fail
        refine (copy_c t.1 tm av cv vs h20 _ V3).mono ?_
        rintro e w9 ⟨a9, c9, rfl, ho, hb9⟩
        have t6 := u6.on hb9 u6.lt
        obtain ⟨hr0, hr1, hr2⟩ := t6.three
        have hf0 := t6.frz 0
        have hf1 := t6.frz 1
        have hf2 := t6.frz 2
        have s6 := ((t6.set 0 (.string t.1)).set 1 (.int .i64 tm)).set 2 (.slice a9 vs.length c9)
        have hsz := u6.lt
        have o6 := owns_set (owns_set (owns_set ho ⟨w.heap.size + 1 + 1 + 1, 0, none⟩ (.string t.1) hsz) ⟨w.heap.size + 1 + 1 + 1, 1, none⟩ (.int .i64 tm) hsz) ⟨w.heap.size + 1 + 1 + 1, 2, none⟩ (.slice a9 vs.length c9) hsz
        replace o6 := hide o6
        clear he0 he1 he2 ho
        go_wp2_with fail
        obtain ⟨hk0, hk1, hk2⟩ := s6.three
        refine bodyPost_ret (v := .agg #[.string t.1, .int .i64 tm, .slice a9 vs.length c9]) (by simp [results, Tryz.results39, go_sem, hk0, hk1, hk2]) rfl ⟨a9, c9, by rw [unhide eM], ?_, ?_⟩
        · rw [unhide eM]
          refine owns_base ?_ (unhide o6)
          first | omega | (have := b0.size; omega) | (have := b2.size; omega) | (have := b0.size; have := hb1.size; omega) | (simp only [World.size_drew]; omega) | (simp only [World.size_drew]; have := b2.size; have := hb3.size; omega) | (have := b0.size; have := q1.size; omega) | (have := b0.size; have := q1.size; have := hb2.size; have := hb3.size; (try simp only [World.size_drew]); omega)
        · have b4 := b3.trans (hb9.mono b3.size)
          exact ((b4.setCell (p := ⟨w.heap.size + 1 + 1 + 1, 0, none⟩) (by simp only; omega) _).setCell (p := ⟨w.heap.size + 1 + 1 + 1, 1, none⟩) (by simp only; omega) _).setCell (p := ⟨w.heap.size + 1 + 1 + 1, 2, none⟩) (by simp only; omega) _
    · have cR := fun W h => refusal_c a cap ts c h5 hk5 W h
      rw [errE_no hr0] at cR
      replace cR := hide cR
      have eM := hide (show (movE ts c ⟨t, tm, vs⟩).vs = vs by simp [movE, hp, hr0])
      obtain ⟨en, hen⟩ : ∃ en, en = refE ts c := ⟨_, rfl⟩
      rw [← hen] at cR
      clear hen hr0
      go_enter Tryz.func39, Tryz.ntmps39
      go_wp2_with fail
      rw [show Obj.cells #[Value.int .i64 c.k, .string c.t.1, .string c.f.1, .string c.o.1, .int .i64 c.dk, .int .i64 c.dn, .string c.ds.1] 42 = Obj.cells c.cs 42 from rfl, ← unhide hW0']
      refine (find_some a cap ts t.1 k h5 _ T0 hp (hk5 k)).mono ?_
      rintro e w1 ⟨a', c', rfl, -, hb1⟩
      have bA : Below w1.heap.size w1 (w1.alloc (.cells #[.string (ty ts k).1.1, .slice a' (ty ts k).2.length c'] 69)) := (Below.refl _ _).alloc (Nat.le_refl _) _
      have q1 := hb1.trans (bA.mono hb1.size)
      have y3 := x3.on q1 x3.lt
      have y4 := x4.on q1 x4.lt
      have y5 := x5.on q1 x5.lt
      have y6 := x6.on q1 x6.lt
      have T1 := T0.on q1
      have V1 := V0.on q1
      have cR1 := hide (unhide cR _ T1)
      have hs := y3.one.1
      obtain ⟨hc0, hc1, hc2, hc3, hc4, hc5, hc6⟩ := y4.seven
      go_wp2_with fail
      refine (unhide cR1).mono ?_
      rintro e w2 ⟨rfl, hb2⟩
      have q2 := q1.trans (hb2.mono q1.size)
      have z5 := y5.on hb2 y5.lt
      have z6 := y6.on hb2 y6.lt
      have V2 := V1.on hb2
      have b2 := b0.trans (q2.mono b0.size)
      clear hs hc0 hc1 hc2 hc3 hc4 hc5 hc6
      obtain ⟨he0, he1, he2⟩ := z5.three
      go_wp2_with fail
      refine (copy_c t.1 tm av cv vs h20 _ V2).mono ?_
      rintro e w9 ⟨a9, c9, rfl, ho, hb9⟩
      have t6 := z6.on hb9 z6.lt
      obtain ⟨hr0, hr1, hr2⟩ := t6.three
      have hf0 := t6.frz 0
      have hf1 := t6.frz 1
      have hf2 := t6.frz 2
      have s6 := ((t6.set 0 (.string t.1)).set 1 (.int .i64 tm)).set 2 (.slice a9 vs.length c9)
      have hsz := z6.lt
      have o6 := owns_set (owns_set (owns_set ho ⟨w.heap.size + 1 + 1 + 1, 0, none⟩ (.string t.1) hsz) ⟨w.heap.size + 1 + 1 + 1, 1, none⟩ (.int .i64 tm) hsz) ⟨w.heap.size + 1 + 1 + 1, 2, none⟩ (.slice a9 vs.length c9) hsz
      replace o6 := hide o6
      clear he0 he1 he2 ho
      go_wp2_with fail
      obtain ⟨hk0, hk1, hk2⟩ := s6.three
      refine bodyPost_ret (v := .agg #[.string t.1, .int .i64 tm, .slice a9 vs.length c9]) (by simp [results, Tryz.results39, go_sem, hk0, hk1, hk2]) rfl ⟨a9, c9, by rw [unhide eM], ?_, ?_⟩
      · rw [unhide eM]
        refine owns_base ?_ (unhide o6)
        first | omega | (have := b0.size; omega) | (have := b2.size; omega) | (have := b0.size; have := hb1.size; omega) | (simp only [World.size_drew]; omega) | (simp only [World.size_drew]; have := b2.size; have := hb3.size; omega) | (have := b0.size; have := q1.size; omega) | (have := b0.size; have := q1.size; have := hb2.size; have := hb3.size; (try simp only [World.size_drew]); omega)
      · have b4 := b2.trans (hb9.mono b2.size)
        exact ((b4.setCell (p := ⟨w.heap.size + 1 + 1 + 1, 0, none⟩) (by simp only; omega) _).setCell (p := ⟨w.heap.size + 1 + 1 + 1, 1, none⟩) (by simp only; omega) _).setCell (p := ⟨w.heap.size + 1 + 1 + 1, 2, none⟩) (by simp only; omega) _

end Go.Proofs.YtcjpaldijngnpaaGreatDoor

namespace Go.Proofs.YtcjpaldijngnpaaGreatDoor
open Go.RowKit Go.Shelf

attribute [local go_sem] Oper.semAt_some

/-- An event behind so many changes from a version on. -/
def mvK (ts : List Ty) (cs : List Ch) (f : Nat) (x : Ev) : Nat → Ev
  | 0 => x
  | j + 1 => movE (vers ts cs (f + j)) (chn cs (f + j)) (mvK ts cs f x j)
theorem movE_ty (ts : List Ty) (c : Ch) (x : Ev) : (movE ts c x).ty = x.ty := by unfold movE; split <;> try rfl
                                                                                 split <;> rfl
theorem movE_ts (ts : List Ty) (c : Ch) (x : Ev) : (movE ts c x).ts = x.ts := by unfold movE; split <;> try rfl
                                                                                 split <;> rfl
theorem vNew_len (nm : Txt) (c : Ch) (fs : List Fd) (vs : List Vl) : (vNew nm c fs vs).length ≤ fs.length + 1 := by
  have := fNew_len nm c fs
  have e : (fNew nm c fs).length = (fAll (nm.1.toList == c.t.1.toList) c fs).length := by simp [fNew]
  simp only [vNew, List.length_map]
  omega
theorem movE_len {ts : List Ty} (hS : Sch ts) (c : Ch) {x : Ev} (h : x.vs.length ≤ 20) : (movE ts c x).vs.length ≤ 20 := by
  unfold movE
  split
  · exact h
  · rename_i k _
    split
    · have := vNew_len (ty ts k).1 c (ty ts k).2 x.vs
      have := sch_hk5 hS k
      simp only; omega
    · exact h
theorem mvK_ty (ts : List Ty) (cs : List Ch) (f : Nat) (x : Ev) (j : Nat) : (mvK ts cs f x j).ty = x.ty := by
  induction j with
  | zero => rfl
  | succ j ih => rw [mvK, movE_ty, ih]
theorem mvK_ts (ts : List Ty) (cs : List Ch) (f : Nat) (x : Ev) (j : Nat) : (mvK ts cs f x j).ts = x.ts := by
  induction j with
  | zero => rfl
  | succ j ih => rw [mvK, movE_ts, ih]
theorem mvK_len {ts : List Ty} (hS : Sch ts) (cs : List Ch) (f : Nat) {x : Ev} (h : x.vs.length ≤ 20) (j : Nat) : (mvK ts cs f x j).vs.length ≤ 20 := by
  induction j with
  | zero => exact h
  | succ j ih => exact movE_len (sch_vers hS cs _) _ ih

abbrev noEv : Value := .agg #[.string ⟨#[]⟩, .int .i64 0, .slice none 0 0]
/-- What Move answers. -/
def MoveAns (ts : List Ty) (cs : List Ch) (x : Ev) (f t : Int) (base : Nat) (e : Ending) (W : World) : Prop :=
  (spansB cs f t = false ∧ e = .returned (.tuple #[noEv, errV 20])) ∨
  (spansB cs f t = true ∧ isE (vers ts cs f.toNat) x ≠ 0 ∧ e = .returned (.tuple #[noEv, errE (isE (vers ts cs f.toNat) x)])) ∨
  (spansB cs f t = true ∧ isE (vers ts cs f.toNat) x = 0 ∧ ∃ a' c', e = .returned (.tuple #[.agg #[.string x.ty.1, .int .i64 x.ts, .slice a' (mvK ts cs f.toNat x (t.toNat - f.toNat)).vs.length c'], .nilIface]) ∧
    W.ownsRow base 40 3 (.slice a' (mvK ts cs f.toNat x (t.toNat - f.toNat)).vs.length c') (mvK ts cs f.toNat x (t.toNat - f.toNat)).vs.length (newsV (mvK ts cs f.toNat x (t.toNat - f.toNat)).vs))

set_option maxRecDepth 100000 in
set_option maxHeartbeats 4000000 in
theorem chMove_in (n : Nat) (hn : 5 ≤ n) (Bp cap capc : Nat) (a ac : Option Addr) (ts : List Ty) (cs : List Ch) (t : Txt) (tm : Int) (vs : List Vl) (av : Option Addr) (cv : Nat) (f g : Int) (hS : Sch ts) (h20 : cs.length ≤ 20) (hv20 : vs.length ≤ 20) (w : World) (hC : IsCh w.heap.size w Bp a ac cap capc ts cs) (hV : Vals w.heap.size w av vs) :
    CallsIn Fence.wide n Tryz.prog 14 #[.pointer (some ⟨Bp, 0, none⟩), .agg #[.string t.1, .int .i64 tm, .slice av vs.length cv], .int .i64 f, .int .i64 g] w fun e W' => MoveAns ts cs ⟨t, tm, vs⟩ f g w.heap.size e W' ∧ Below w.heap.size w W' := by
  have h1 : 1 ≤ n := by omega
  have hro : Fence.wide.round = none := rfl
  obtain ⟨W0, hW0⟩ : ∃ W0, W0 = (w.alloc (.cells #[.string t.1, .int .i64 tm, .slice av vs.length cv] 28)).alloc (.cells #[.string ⟨#[]⟩, .int .i64 0, .slice none 0 0] 28) := ⟨_, rfl⟩
  have e0 : W0.heap.size = w.heap.size + 2 := by rw [hW0]; simp
  have b0 : Below w.heap.size w W0 := by rw [hW0]; exact ((Below.refl _ _).alloc (Nat.le_refl _) _).alloc (by simp) _
  have x5 : Box W0 w.heap.size 28 #[.string t.1, .int .i64 tm, .slice av vs.length cv] := by rw [hW0]; exact (Box.new w 28 #[.string t.1, .int .i64 tm, .slice av vs.length cv]).alloc _
  have x8 : Box W0 (w.heap.size + 1) 28 #[.string ⟨#[]⟩, .int .i64 0, .slice none 0 0] := by
    have := Box.new (w.alloc (.cells #[.string t.1, .int .i64 tm, .slice av vs.length cv] 28)) 28 #[.string ⟨#[]⟩, .int .i64 0, .slice none 0 0]
    simp only [World.size_alloc] at this
    rw [hW0]; exact this
  have C0 := (hC.on b0).mono b0.size
  have V0 := hV.on b0
  refine callsIn_of_wp_marks Tryz.func14 rfl trivial ?_ rfl
  simp only [Tryz.ntmps14, List.size_toArray, List.length_cons, List.length_nil, Nat.reduceAdd, Nat.reduceSub, Array.replicate_succ, Array.replicate_zero, List.push_toArray, List.append_toArray, List.nil_append, List.cons_append]
  gi_upto_region 1 with fail
  rw [← hW0]
  clear hW0
  gi_wp2_with fail
  refine ⟨trivial, ?_⟩
  refine (callsIn_wide.2 (spans_c Bp cap capc a ac ts cs f g W0 C0)).mono ?_
  rintro e w1 ⟨rfl, ew⟩
  rw [ew]
  clear ew w1
  cases hsp : spansB cs f g
  · obtain ⟨hr0, hr1, hr2⟩ := x8.three
    have hf0 := x8.frz 0
    have hf1 := x8.frz 1
    have hf2 := x8.frz 2
    replace hsp := hide hsp
    gi_wp2_with fail
    have s8 := ((x8.set 0 (.string ⟨#[]⟩)).set 1 (.int .i64 0)).set 2 (.slice none 0 0)
    obtain ⟨hk0, hk1, hk2⟩ := s8.three
    refine ⟨.tuple #[noEv, errV 20], ?_, .inl ⟨unhide hsp, rfl⟩, ?_⟩
    · simp [results, Tryz.f14, go_sem, hk0, hk1, hk2]
    · exact ((b0.setCell (p := ⟨w.heap.size + 1, 0, none⟩) (by simp only; omega) _).setCell (p := ⟨w.heap.size + 1, 1, none⟩) (by simp only; omega) _).setCell (p := ⟨w.heap.size + 1, 2, none⟩) (by simp only; omega) _
  · have hsp' := hsp
    unfold spansB at hsp'
    simp only [Bool.and_eq_true, decide_eq_true_eq] at hsp'
    obtain ⟨⟨hf0, hfg⟩, hgl⟩ := hsp'
    obtain ⟨f, rfl⟩ : ∃ k : Nat, f = k := ⟨f.toNat, by omega⟩
    obtain ⟨g, rfl⟩ : ∃ k : Nat, g = k := ⟨g.toNat, by omega⟩
    replace hsp := hide hsp
    have eVf := sch_vers hS cs f
    gi_wp2_with fail
    refine ⟨trivial, ?_⟩
    refine (callsIn_wide.2 (at_c Bp cap capc a ac ts cs f hS h20 W0 C0)).mono ?_
    rintro e w1 ⟨hat, hb1⟩
    rcases hat with ⟨k', a1, c1, hk', -, rfl, hO⟩ | ⟨h, -⟩
    case inr => omega
    obtain rfl : k' = f := by omega
    clear hk'
    obtain ⟨vk, hvk⟩ : ∃ vk, vk = vers ts cs k' := ⟨_, rfl⟩
    rw [← hvk] at hO eVf ⊢
    obtain ⟨w2, hw2⟩ : ∃ w2, w2 = w1.alloc (.cells #[.slice a1 vk.length c1] 24) := ⟨_, rfl⟩
    have b2 : Below w1.heap.size w1 w2 := by rw [hw2]; exact (Below.refl _ _).alloc (Nat.le_refl _) _
    have v10 : Box w2 w1.heap.size 24 #[.slice a1 vk.length c1] := by rw [hw2]; exact Box.new _ _ _
    replace hvk := hide hvk
    gi_upto_region 4 with fail
    rw [← hw2]
    clear hw2
    have bw1 := hb1
    have bw2 := hb1.trans (b2.mono hb1.size)
    have T2 := (hO.on b2).typs (sch_max eVf)
    have V2 := V0.on bw2
    have y5 := x5.on bw2 x5.lt
    have y8 := x8.on bw2 x8.lt
    have C2 := (C0.on bw2)
    have hs := v10.one.1
    obtain ⟨hc0, hc1, hc2⟩ := y5.three
    have cI := is_c a1 av c1 cv vk ⟨t, tm, vs⟩ eVf.1 (sch_hk5 eVf) hv20 w2 T2 V2
    simp only at cI
    have bwa := b0.trans (bw2.mono b0.size)
    by_cases hi0 : isE vk ⟨t, tm, vs⟩ = 0
    case neg =>
      have hi1 := hide hi0
      have hrv : ∃ rv, Hid (rv = errE (isE vk ⟨t, tm, vs⟩)) := ⟨_, rfl⟩
      rw [errE_no hi0] at cI
      replace cI := hide cI
      gi_wp2_with fail
      refine ⟨trivial, ?_⟩
      refine (callsIn_wide.2 (unhide cI)).mono ?_
      rintro e w3 ⟨rfl, hb3⟩
      clear cI hs hc0 hc1 hc2
      have z8 := y8.on hb3 y8.lt
      obtain ⟨hr0, hr1, hr2⟩ := z8.three
      have hf0 := z8.frz 0
      have hf1 := z8.frz 1
      have hf2 := z8.frz 2
      have bw3 := bwa.trans (hb3.mono bwa.size)
      gi_wp2_with fail
      have s8 := ((z8.set 0 (.string ⟨#[]⟩)).set 1 (.int .i64 0)).set 2 (.slice none 0 0)
      obtain ⟨hk0, hk1, hk2⟩ := s8.three
      refine ⟨.tuple #[noEv, errV (isE vk ⟨t, tm, vs⟩)], ?_, .inr (.inl ⟨unhide hsp, ?_, ?_⟩), ?_⟩
      · simp [results, Tryz.f14, go_sem, hk0, hk1, hk2]
      · simp only [Int.toNat_natCast]; rw [← unhide hvk]; exact hi0
      · simp only [Int.toNat_natCast]; rw [← unhide hvk, errE_no hi0]
      · exact ((bw3.setCell (p := ⟨w.heap.size + 1, 0, none⟩) (by simp only; omega) _).setCell (p := ⟨w.heap.size + 1, 1, none⟩) (by simp only; omega) _).setCell (p := ⟨w.heap.size + 1, 2, none⟩) (by simp only; omega) _
    case pos =>
      rw [hi0, errE_zero] at cI
      replace hi0 := hide hi0
      replace cI := hide cI
      gi_wp2_with fail
      refine ⟨trivial, ?_⟩
      refine (callsIn_wide.2 (unhide cI)).mono ?_
      rintro e w3 ⟨rfl, hb3⟩
      clear cI hs hc0 hc1 hc2
      have z5 := y5.on hb3 y5.lt
      have z8 := y8.on hb3 y8.lt
      have bw3 := bwa.trans (hb3.mono bwa.size)
      obtain ⟨hc0, hc1, hc2⟩ := z5.three
      have cC := hide (copy_c t.1 tm av cv vs hv20 w3 (V2.on hb3))
      gi_wp2_with fail
      refine ⟨trivial, ?_⟩
      refine (callsIn_wide.2 (unhide cC)).mono ?_
      rintro e w4 ⟨a4, c4, rfl, ho, hb4⟩
      clear cC hc0 hc1 hc2
      have u8 := z8.on hb4 z8.lt
      have bw4 := bw3.trans (hb4.mono bw3.size)
      obtain ⟨w5, hw5⟩ : ∃ w5, w5 = w4.alloc (.cells #[.string t.1, .int .i64 tm, .slice a4 vs.length c4] 28) := ⟨_, rfl⟩
      have b5 : Below w4.heap.size w4 w5 := by rw [hw5]; exact (Below.refl _ _).alloc (Nat.le_refl _) _
      have e5 : w5.heap.size = w4.heap.size + 1 := by rw [hw5]; simp
      have v13 : Box w5 w4.heap.size 28 #[.string t.1, .int .i64 tm, .slice a4 vs.length c4] := by rw [hw5]; exact Box.new _ _ _
      have o5 := hide (owns_base (Nat.le_trans bw3.size (Nat.le_refl _)) (owns_below ho b5))
      clear ho
      gi_upto_region 8 with fail
      rw [← hw5]
      clear hw5
      have bw5 := bw4.trans (b5.mono bw4.size)
      have hw45 : w4.heap.size < w5.heap.size := by omega
      have hww4 : w.heap.size + 1 < w4.heap.size := by have := u8.lt; omega
      clear e5
      have t8 := u8.on b5 u8.lt
      gi_wp2_with fail
      refine ⟨trivial, ?_⟩
      refine (callsIn_wide.2 (steps_c Bp k' g w5)).mono ?_
      rintro e w6 ⟨rfl, e6, hb6, p23, pf, pt⟩
      have hw56 : w5.heap.size + 1 + 1 < w6.heap.size := by omega
      clear e6
      gi_wp2_with fail
      have bw6 := bw5.trans (hb6.mono bw5.size)
      refine wpIn_rangeFunc_told okV_of hro h1 (gf := 71) (lb := #[.pointer (some ⟨w5.heap.size, 0, none⟩), .pointer (some ⟨w5.heap.size + 1 + 1, 0, none⟩), .pointer (some ⟨w5.heap.size + 1, 0, none⟩)]) rfl trivial (enters_of Tryz.func71 (by kernel_rfl) rfl)
        (steps_told (n - 1) (by omega) w5.heap.size (w5.heap.size + 1 + 1) (w5.heap.size + 1) Bp w.heap.size cap capc a ac ts cs k' g (by omega) (by omega) hS h20 (fun k => k = w4.heap.size) w6 (by omega) (fun k h => by subst h; omega) p23 pt pf (by omega) (by omega) (by omega) (hC.on bw6)) KeepC.trans
        (fun W l o o' hl h hc hw => KeepC.put W h hc o') (Below.refl _ _) (fun _ => rfl)
        (fun pre W => Box W (w.heap.size + 1) 28 #[.string ⟨#[]⟩, .int .i64 0, .slice none 0 0] ∧ (∃ a' c', Box W w4.heap.size 28 #[.string t.1, .int .i64 tm, .slice a' (mvK ts cs k' ⟨t, tm, vs⟩ pre.length).vs.length c'] ∧ W.ownsRow w.heap.size 40 3 (.slice a' (mvK ts cs k' ⟨t, tm, vs⟩ pre.length).vs.length c') (mvK ts cs k' ⟨t, tm, vs⟩ pre.length).vs.length (newsV (mvK ts cs k' ⟨t, tm, vs⟩ pre.length).vs)) ∧ Below w.heap.size w W)
        (fun c pre W => False)
        (ownP_and (ownP_box (by omega) _ (fun _ => _)) (ownP_and (ownP_ex fun a' => ownP_ex fun c' => ownP_and (ownP_box (by omega) _ (fun (pre : List Vn) => #[.string t.1, .int .i64 tm, .slice a' (mvK ts cs k' ⟨t, tm, vs⟩ pre.length).vs.length c'])) (fun (pre : List Vn) A C row hs hg hr => ownP_row (β := Unit) (by decide) _ _ _ _ () A C row hs hg hr)) (ownP_below (by omega) (Nat.le_refl _))))
        (fun c => ownP_pure _ _ (fun _ => False))
        ⟨t8.on hb6 t8.lt, ⟨a4, c4, v13.on hb6 v13.lt, owns_below (unhide o5) hb6⟩, bw6⟩
        (fun pre x a1' W => ∃ B1 B2, (Box W B1 24 #[.slice x.2.1 (vers ts cs x.1).length x.2.2] ∧ Box W B2 42 (chn cs x.1).cs) ∧ ElS ts cs k' g w6.heap.size pre x W ∧ a1' = { tmps := #[.pointer (some ⟨Bp, 0, none⟩), .agg #[.string t.1, .int .i64 tm, .slice av vs.length cv], .int .i64 k', .int .i64 g, undef, .pointer (some ⟨w.heap.size, 0, none⟩), undef, undef, .pointer (some ⟨w.heap.size + 1, 0, none⟩), .nilIface, .pointer (some ⟨w1.heap.size, 0, none⟩), .bool true, .nilIface, .pointer (some ⟨w4.heap.size, 0, none⟩), .pointer (some ⟨B1, 0, none⟩), .pointer (some ⟨B2, 0, none⟩), .pointer (some ⟨Bp, 0, none⟩), .int .i64 k', .int .i64 g, .bool true, .bool false, undef, undef, .tuple #[.agg #[.slice a1 vk.length c1], .bool true], .pointer (some ⟨Bp, 0, none⟩), .int .i64 k', .tuple #[.agg #[.slice a1 vk.length c1], .bool true], .agg #[.slice a1 vk.length c1], .bool true, .agg #[.slice a1 vk.length c1], .agg #[.string t.1, .int .i64 tm, .slice av vs.length cv], .nilIface, .nilIface, .bool false, undef, undef, .agg #[.string t.1, .int .i64 tm, .slice av vs.length cv], .agg #[.string t.1, .int .i64 tm, .slice a4 vs.length c4], .pointer (some ⟨Bp, 0, none⟩), .int .i64 k', .int .i64 g, .func (.func 71) #[] #[.pointer (some ⟨w5.heap.size, 0, none⟩), .pointer (some ⟨w5.heap.size + 1 + 1, 0, none⟩), .pointer (some ⟨w5.heap.size + 1, 0, none⟩)], .agg #[.slice x.2.1 (vers ts cs x.1).length x.2.2], (chn cs x.1).v, undef, undef, undef, undef, undef], defers := [] })
        (fun pre x a1' s A B row hs hg hr => by
          obtain ⟨B1, B2, ⟨hf1, hf2⟩, ⟨h1, h2, h3⟩, e⟩ := hs
          exact ⟨B1, B2, ⟨box_own _ _ (fun _ => _) s A B row hf1 hg (fun r e => (hr r e).2), box_own _ _ (fun _ => _) s A B row hf2 hg (fun r e => (hr r e).2)⟩, ⟨h1, h2, own_ownT _ _ _ s A B row h3 hg hr⟩, e⟩) ?assign ?body ?done ?stop
      case assign =>
        rintro l pre x W K ⟨hb8, ⟨a', c', hbm, hro'⟩, hB⟩ ⟨he1, he2, he3⟩ hK
        obtain ⟨WA, hWA⟩ : ∃ WA, WA = (W.alloc (.cells #[.slice x.2.1 (vers ts cs x.1).length x.2.2] 24)).alloc (.cells (chn cs x.1).cs 42) := ⟨_, rfl⟩
        have bA : Below W.heap.size W WA := by rw [hWA]; exact ((Below.refl _ W).alloc (Nat.le_refl _) _).alloc (by simp) _
        have q1 : Box WA W.heap.size 24 #[.slice x.2.1 (vers ts cs x.1).length x.2.2] := by rw [hWA]; exact (Box.new W 24 _).alloc _
        have q2 : Box WA (W.heap.size + 1) 42 (chn cs x.1).cs := by
          have := Box.new (W.alloc (.cells #[.slice x.2.1 (vers ts cs x.1).length x.2.2] 24)) 42 (chn cs x.1).cs
          rw [World.size_alloc] at this
          rw [hWA]; exact this
        replace he3 := hide he3
        replace he1 := hide he1
        replace hro' := hide hro'
        replace hWA := hide hWA
        gi_wp2
        rw [← unhide hWA]
        refine hK _ _ ?_ ?_ ?_ ?_
        · exact (keeps_below bA).from _
        · exact KeepC.below bA
        · exact ⟨hb8.on bA hb8.lt, ⟨a', c', hbm.on bA hbm.lt, owns_below (unhide hro') bA⟩, hB.trans (bA.mono hB.size)⟩
        · exact ⟨W.heap.size, W.heap.size + 1, ⟨q1, q2⟩, ⟨unhide he1, he2, (unhide he3).on bA⟩, rfl⟩
      case body =>
        rintro l pre x a1' W ⟨hb8, ⟨a', c', hbm, hro'⟩, hB⟩ ⟨B1, B2, ⟨hq1, hq2⟩, ⟨he1, he2, he3⟩, rfl⟩
        have h2 : 1 ≤ n - 1 - 1 := by omega
        have hs0 := hq1.one.1
        obtain ⟨hd0, hd1, hd2, hd3, hd4, hd5, hd6⟩ := hq2.seven
        obtain ⟨hm0, hm1, hm2⟩ := hbm.three
        have hSx := sch_vers hS cs x.1
        have hTx := he3.typs (sch_max hSx)
        obtain ⟨aV, cV, eV, hVx, -⟩ := vals_of_owns hro'
        cases eV
        have hml := mvK_len hS cs k' (x := ⟨t, tm, vs⟩) hv20 pre.length
        have hmt := mvK_ty ts cs k' ⟨t, tm, vs⟩ pre.length
        have hms := mvK_ts ts cs k' ⟨t, tm, vs⟩ pre.length
        have hnx := hide (show mvK ts cs k' ⟨t, tm, vs⟩ (pre ++ [x]).length = movE (vers ts cs x.1) (chn cs x.1) (mvK ts cs k' ⟨t, tm, vs⟩ pre.length) by rw [List.length_append, List.length_singleton, mvK, he1])
        have cM := move_o x.2.1 a' x.2.2 c' (vers ts cs x.1) (chn cs x.1) (mvK ts cs k' ⟨t, tm, vs⟩ pre.length) hSx.1 (sch_hk5 hSx) hml W hTx hVx
        simp only [hmt, hms] at cM
        clear hmt hms
        obtain ⟨y, hy⟩ : ∃ y, y = (mvK ts cs k' ⟨t, tm, vs⟩ pre.length) := ⟨_, rfl⟩
        rw [← hy] at cM hnx hm2
        have hyl := hide hy
        obtain ⟨cc, hcc⟩ : ∃ cc, cc = chn cs x.1 := ⟨_, rfl⟩
        rw [← hcc] at cM hnx hd0 hd1 hd2 hd3 hd4 hd5 hd6 ⊢
        clear hcc hq2
        obtain ⟨vx, hvx⟩ : ∃ vx, vx = vers ts cs x.1 := ⟨_, rfl⟩
        rw [← hvx] at cM hnx hs0 ⊢
        clear hvx hTx hVx hro' hml he1 hy
        replace cM := hide cM
        gi_wp2_with fail
        refine ⟨trivial, ?_⟩
        refine (CallsIn.inRound l (callsIn_wide.2 (unhide cM))).mono ?_
        rintro e W2 ⟨a2, c2, rfl, ho2, hb2⟩
        clear cM hs0 hd0 hd1 hd2 hd3 hd4 hd5 hd6 hm0 hm1 hm2
        have hbm2 := hbm.on hb2 hbm.lt
        have hb82 := hb8.on hb2 hb8.lt
        obtain ⟨hm0, hm1, hm2⟩ := hbm2.three
        have hf0 := hbm2.frz 0
        have hf1 := hbm2.frz 1
        have hf2 := hbm2.frz 2
        have hB2 := hB.trans (hb2.mono hB.size)
        obtain ⟨y2, hy2⟩ : ∃ y2, y2 = (movE vx cc y).vs := ⟨_, rfl⟩
        rw [← hy2] at ho2 ⊢
        replace hy2 := hide hy2
        have hlm := hbm.lt
        have o2 := owns_set (owns_set (owns_set ho2 ⟨w4.heap.size, 0, none⟩ (.string t.1) hlm) ⟨w4.heap.size, 1, none⟩ (.int .i64 tm) hlm) ⟨w4.heap.size, 2, none⟩ (.slice a2 y2.length c2) hlm
        replace o2 := hide (owns_base hB.size o2)
        clear ho2
        gi_wp2_with fail
        have k3 := ((KeepsOthers.setCell W2 ⟨w4.heap.size, 0, none⟩ (.string t.1)).trans (KeepsOthers.setCell _ ⟨w4.heap.size, 1, none⟩ (.int .i64 tm))).trans (KeepsOthers.setCell _ ⟨w4.heap.size, 2, none⟩ (.slice a2 y2.length c2))
        have c3 := ((KeepC.set (X := fun k => k = w4.heap.size) W2 w4.heap.size 0 (.string t.1) rfl).trans (KeepC.set _ w4.heap.size 1 (.int .i64 tm) rfl)).trans (KeepC.set _ w4.heap.size 2 (.slice a2 y2.length c2) rfl)
        refine ⟨((keeps_below hb2).trans k3).from _, (KeepC.below hb2).trans c3, ?_, ⟨a2, c2, ?_, ?_⟩, ?_⟩
        · exact ((hb82.other _ _ (by simp only; omega)).other _ _ (by simp only; omega)).other _ _ (by simp only; omega)
        · rw [unhide hnx, ← unhide hy2]; exact ((hbm2.set 0 _).set 1 _).set 2 _
        · rw [unhide hnx, ← unhide hy2]; exact unhide o2
        · exact ((hB2.setCell (p := ⟨w4.heap.size, 0, none⟩) (by simp only; omega) _).setCell (p := ⟨w4.heap.size, 1, none⟩) (by simp only; omega) _).setCell (p := ⟨w4.heap.size, 2, none⟩) (by simp only; omega) _
      case done =>
        rintro D ys W hD hys ⟨hb8, ⟨a', c', hbm, hro'⟩, hB⟩ hK
        rw [hys] at hbm hro'
        obtain ⟨y, hy⟩ : ∃ y, y = mvK ts cs k' ⟨t, tm, vs⟩ (g - k') := ⟨_, rfl⟩
        rw [← hy] at hbm hro'
        replace hy := hide hy
        clear hys
        replace hro' := hide hro'
        obtain ⟨hm0, hm1, hm2⟩ := hbm.three
        obtain ⟨hr0, hr1, hr2⟩ := hb8.three
        have hf0 := hb8.frz 0
        have hf1 := hb8.frz 1
        have hf2 := hb8.frz 2
        gi_wp2_with fail
        obtain ⟨W5, hW5⟩ : ∃ W5, W5 = ((W.setCell ⟨w.heap.size + 1, 0, none⟩ (.string t.1)).setCell ⟨w.heap.size + 1, 1, none⟩ (.int .i64 tm)).setCell ⟨w.heap.size + 1, 2, none⟩ (.slice a' y.vs.length c') := ⟨_, rfl⟩
        have k3 : KeepsOthers W W5 := by rw [hW5]; exact ((KeepsOthers.setCell W ⟨w.heap.size + 1, 0, none⟩ (.string t.1)).trans (KeepsOthers.setCell _ ⟨w.heap.size + 1, 1, none⟩ (.int .i64 tm))).trans (KeepsOthers.setCell _ ⟨w.heap.size + 1, 2, none⟩ (.slice a' y.vs.length c'))
        have s8 : Box W5 (w.heap.size + 1) 28 #[.string t.1, .int .i64 tm, .slice a' y.vs.length c'] := by rw [hW5]; exact ((hb8.set 0 _).set 1 _).set 2 _
        have o5 : W5.ownsRow w.heap.size 40 3 (.slice a' y.vs.length c') y.vs.length (newsV y.vs) := by
          have q0 := set_other (i := 0) (unhide hro') hb8 (by decide) (.string t.1)
          have q1 := set_other (i := 1) q0 (hb8.set 0 (.string t.1)) (by decide) (.int .i64 tm)
          have q2 := set_other (i := 2) q1 ((hb8.set 0 (.string t.1)).set 1 (.int .i64 tm)) (by decide) (.slice a' y.vs.length c')
          rw [hW5]; exact q2
        have bz : Below w.heap.size w W5 := by rw [hW5]; exact ((hB.setCell (p := ⟨w.heap.size + 1, 0, none⟩) (by simp only; omega) _).setCell (p := ⟨w.heap.size + 1, 1, none⟩) (by simp only; omega) _).setCell (p := ⟨w.heap.size + 1, 2, none⟩) (by simp only; omega) _
        rw [← hW5]
        clear hW5
        have hK' := k3.same D _ hK rfl
        refine ⟨by simp, .inl ⟨_, _, rfl, run_takeDeferred hK', ?_⟩⟩
        obtain ⟨d0, d1, d2⟩ := (s8.put hK' rfl (.deferred none)).three
        refine ⟨.tuple #[.agg #[.string t.1, .int .i64 tm, .slice a' y.vs.length c'], .nilIface], ?_, .inr (.inr ⟨unhide hsp, ?_, a', c', ?_, ?_⟩), bz.trans (belowK_b (w := w) (Nat.le_refl _) _ D _ _ (by omega) hK' rfl rfl)⟩
        · simp [results, Tryz.f14, go_sem, d0, d1, d2]
        · simp only [Int.toNat_natCast]; rw [← unhide hvk]; exact unhide hi0
        · simp only [Int.toNat_natCast]; rw [← unhide hy]
        · simp only [Int.toNat_natCast]; rw [← unhide hy]
          exact owns_keep o5 fun q hq hl => World.putObj_heap_other (fun e => by
            obtain ⟨_, cur, hc⟩ := owns_lt o5 hq
            subst e
            rw [hc] at hK'; cases hK')
      case stop =>
        rintro D c pre W hD - h
        exact h.elim

theorem chMove_c (Bp cap capc : Nat) (a ac : Option Addr) (ts : List Ty) (cs : List Ch) (t : Txt) (tm : Int) (vs : List Vl) (av : Option Addr) (cv : Nat) (f g : Int) (hS : Sch ts) (h20 : cs.length ≤ 20) (hv20 : vs.length ≤ 20) (w : World) (hC : IsCh w.heap.size w Bp a ac cap capc ts cs) (hV : Vals w.heap.size w av vs) :
    Calls Tryz.prog 14 #[.pointer (some ⟨Bp, 0, none⟩), .agg #[.string t.1, .int .i64 tm, .slice av vs.length cv], .int .i64 f, .int .i64 g] w fun e W' => MoveAns ts cs ⟨t, tm, vs⟩ f g w.heap.size e W' ∧ Below w.heap.size w W' :=
  callsIn_wide.1 (chMove_in 5 (Nat.le_refl _) Bp cap capc a ac ts cs t tm vs av cv f g hS h20 hv20 w hC hV)

end Go.Proofs.YtcjpaldijngnpaaGreatDoor
