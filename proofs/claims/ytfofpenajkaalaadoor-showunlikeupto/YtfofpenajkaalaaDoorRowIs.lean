/-
  What isRow and Pattern answer: for every row of elements, every pattern that lies, in whatever world; nothing that lay is turned.
-/
import Derived.Test.YtfofpenajkaalaaDoorElemIs
namespace Go.Proofs.YtfofpenajkaalaaDoor
open Go.RowKit Go.Shelf

/-- The element at j is as it may be, and none ahead of it has its alias. -/
def rowAt (es : List Em) (j : Nat) : Bool := match es[j]? with | none => true | some e => elemB e && !anyAl (es.take j) e.al.1
def rowTo (es : List Em) (k : Nat) : Bool := (List.range k).all (rowAt es)
theorem rowTo_succ (es : List Em) (k : Nat) : rowTo es (k + 1) = (rowTo es k && rowAt es k) := by simp [rowTo, List.range_succ]
theorem rowTo_no (es : List Em) (k : Nat) (hk : k < es.length) (h : rowAt es k = false) : rowTo es es.length = false := by
  unfold rowTo
  rw [List.all_eq_false]
  exact ⟨k, by simpa using hk, by simp [h]⟩
/-- A row of elements as it may be. -/
def rowB (es : List Em) : Bool := decide (es.length ≤ 5) && partB true es && rowTo es es.length

set_option maxRecDepth 100000 in
set_option maxHeartbeats 4000000 in
theorem isRow_c (a : Option Addr) (cap : Nat) (es : List Em) (hcap : es.length ≤ cap) (w : World) (hE : Ems w.heap.size w a es) :
    Calls Tryd.prog 49 #[.slice a es.length cap] w fun r w' => r = .returned (.bool (rowB es)) ∧ Below w.heap.size w w' := by
  have h1 := hE.1
  by_cases c1 : es.length ≤ 5
  case neg =>
    have H := hide (show rowB es = false by simp only [rowB]; rw [decide_eq_false c1]; rfl)
    have e1 : (5 : Int) < es.length := by omega
    clear c1
    replace hE := hide hE
    go_enter Tryd.func49, Tryd.ntmps49
    go_wp2_with fail
    go_ret
    exact ⟨by rw [unhide H]; rfl, Below.refl _ _⟩
  have e1 : ¬ (5 : Int) < es.length := by omega
  have H := hide (show rowB es = (partB true es && rowTo es es.length) by simp only [rowB]; rw [decide_eq_true c1]; simp)
  clear c1
  have cP := hide (parted_c a cap es w hE)
  replace hE := hide hE
  go_enter Tryd.func49, Tryd.ntmps49
  go_wp2_with fail
  refine (unhide cP).mono ?_
  rintro r w0 ⟨rfl, hb0⟩
  clear cP
  cases c2 : partB true es
  · rw [c2] at H
    go_wp2_with fail
    go_ret
    exact ⟨by rw [unhide H]; rfl, hb0⟩
  rw [c2, Bool.true_and] at H
  go_wp2_with fail
  go_loopw [15] (fun i wr => ∃ k : Nat, k ≤ es.length ∧ i = .int .i64 k ∧ Hid (rowTo es k = true) ∧ Below w.heap.size w wr) (fun i _ => es.length - (intOf i).toNat)
  case atStart => exact ⟨0, Nat.zero_le _, rfl, hide (by simp [rowTo]), hb0⟩
  case round =>
    clear c2
    obtain ⟨k, hk, rfl, hp, hb⟩ := hrel
    by_cases hlt : k < es.length
    · obtain ⟨e, he⟩ : ∃ e, es[k]? = some e := ⟨_, List.getElem?_eq_getElem hlt⟩
      have hE' := (unhide hE).on hb
      obtain ⟨b, off, p, ea, hbn, hcs, hIn⟩ := hE'.at he
      have hat := hide (show rowAt es k = (elemB e && !anyAl (es.take k) e.al.1) by simp only [rowAt, he])
      have hd0 := hcs 0 _ rfl
      have hd1 := hcs 1 _ rfl
      have hd2 := hcs 2 _ rfl
      have hd3 := hcs 3 _ rfl
      have hd4 := hcs 4 _ rfl
      have hd5 := hcs 5 _ rfl
      have hd6 := hcs 6 _ rfl
      have hd7 := hcs 7 _ rfl
      have hd8 := hcs 8 _ rfl
      have hd9 := hcs 9 _ rfl
      have hd10 := hcs 10 _ rfl
      rw [Nat.add_zero] at hd0
      clear hcs he
      subst ea
      have hT := hide (hE'.take k)
      have htl : (es.take k).length = k := by simp; omega
      clear hE'
      obtain ⟨wk, hwk⟩ : ∃ wk, wk = wr.alloc (.cells (e.cs p) 42) := ⟨_, rfl⟩
      have bk : Below wr.heap.size wr wk := by rw [hwk]; exact (Below.refl _ _).alloc (Nat.le_refl _) _
      have xk : Box wk wr.heap.size 42 (e.cs p) := by rw [hwk]; exact Box.new _ _ _
      have hkl : (k : Int) < es.length := by omega
      have hk0 : (0 : Int) ≤ k := by omega
      have hkc : (k : Int) ≤ cap := by omega
      have hmx : Tryd.prog.follows .mixedOrders = true := by kernel_rfl
      replace hwk := hide hwk
      replace htl := hide htl
      replace hIn := hide hIn
      go_upto_region 6 with fail
      rw [← unhide hwk]
      clear hwk hd0 hd1 hd2 hd3 hd4 hd5 hd6 hd7 hd8 hd9 hd10
      obtain ⟨V, hV'⟩ : ∃ V, V = ({ heap := wk.heap, tape := wk.tape, drawn := wk.drawn + 1, os := wk.os, output := wk.output } : World) := ⟨_, rfl⟩
      have bV : Below wk.heap.size wk V := by rw [hV']; exact (Below.refl _ _).drew
      have bkV : Below wr.heap.size wr V := bk.trans (bV.mono bk.size)
      have bWV := hb.trans (bkV.mono hb.size)
      have cE := hide (isElem_c e p V ((unhide hIn).on bkV))
      refine wp_region_any hmx (wpAny_of_C (C := fun w' => Below V.heap.size V w') _ _ _ _ ?_)
      rw [← hV']
      clear hV'
      cases hq : elemB e
      · rw [hq, Bool.false_and] at hat
        have hno := hide (show rowB es = false by rw [unhide H]; exact rowTo_no es k hlt (unhide hat))
        refine wpAnyC_reads 0 (Below.refl _ _) (by kernel_rfl) (by kernel_rfl) (by kernel_rfl) (fun d _ _ _ _ h => by cases d <;> exact h) (fun oi ho K hK => ?_)
        simp only [List.getElem?_toArray, List.getElem?_cons_zero, Option.some.injEq] at ho
        subst ho
        rw [if_pos (by kernel_rfl)]
        refine ⟨.agg (e.cs p), fun w' hw' => ?_, hK _ ?_⟩
        · have hu1 := xk.on (bV.trans (hw'.mono bV.size)) xk.lt
          obtain ⟨hp0, hp1, hp2, hp3, hp4, hp5, hp6, hp7, hp8, hp9, hp10⟩ := hu1.eleven
          go_simp
        clear hK K
        refine wpAnyC_calls 1 (by kernel_rfl) (fun oi ho K hK => ?_)
        simp only [List.getElem?_toArray, List.getElem?_cons_succ, List.getElem?_cons_zero, Option.some.injEq] at ho
        subst ho
        go_simp
        refine (unhide cE).mono ?_
        rintro r u1 ⟨rfl, hb1⟩
        rw [hq]
        go_simp
        refine hK _ _ hb1 ?_
        clear hK K
        refine wpAnyC_calls 2 (by kernel_rfl) (fun oi ho K hK => ?_)
        simp only [List.getElem?_toArray, List.getElem?_cons_succ, List.getElem?_cons_zero, Option.some.injEq] at ho
        subst ho
        go_simp
        refine hK _ _ hb1 ?_
        clear hK K
        refine wpAnyC_calls 3 (by kernel_rfl) (fun oi ho K hK => ?_)
        simp only [List.getElem?_toArray, List.getElem?_cons_succ, List.getElem?_cons_zero, Option.some.injEq] at ho
        subst ho
        go_simp
        refine hK _ _ hb1 ?_
        clear hK K
        refine wpAnyC_reads 4 hb1 (by kernel_rfl) (by kernel_rfl) (by kernel_rfl) (fun d _ _ _ _ h => by cases d <;> exact h) (fun oi ho K hK => ?_)
        simp only [List.getElem?_toArray, List.getElem?_cons_succ, List.getElem?_cons_zero, Option.some.injEq] at ho
        subst ho
        rw [if_neg (Bool.eq_false_iff.1 (by kernel_rfl))]
        refine hK _ ?_
        clear hK K
        refine wpAnyC_reads 5 hb1 (by kernel_rfl) (by kernel_rfl) (by kernel_rfl) (fun d _ _ _ _ h => by cases d <;> exact h) (fun oi ho K hK => ?_)
        simp only [List.getElem?_toArray, List.getElem?_cons_succ, List.getElem?_cons_zero, Option.some.injEq] at ho
        subst ho
        rw [if_neg (Bool.eq_false_iff.1 (by kernel_rfl))]
        refine hK _ ?_
        clear hK K
        refine wpAnyC_reads 6 hb1 (by kernel_rfl) (by kernel_rfl) (by kernel_rfl) (fun d _ _ _ _ h => by cases d <;> exact h) (fun oi ho K hK => ?_)
        simp only [List.getElem?_toArray, List.getElem?_cons_succ, List.getElem?_cons_zero, Option.some.injEq] at ho
        subst ho
        rw [if_neg (Bool.eq_false_iff.1 (by kernel_rfl))]
        refine hK _ ?_
        clear hK K
        refine wpAnyC_reads 7 hb1 (by kernel_rfl) (by kernel_rfl) (by kernel_rfl) (fun d _ _ _ _ h => by cases d <;> exact h) (fun oi ho K hK => ?_)
        simp only [List.getElem?_toArray, List.getElem?_cons_succ, List.getElem?_cons_zero, Option.some.injEq] at ho
        subst ho
        rw [if_neg (Bool.eq_false_iff.1 (by kernel_rfl))]
        refine hK _ ?_
        clear hK K
        refine wpAnyC_reads 8 hb1 (by kernel_rfl) (by kernel_rfl) (by kernel_rfl) (fun d _ _ _ _ h => by cases d <;> exact h) (fun oi ho K hK => ?_)
        simp only [List.getElem?_toArray, List.getElem?_cons_succ, List.getElem?_cons_zero, Option.some.injEq] at ho
        subst ho
        rw [if_neg (Bool.eq_false_iff.1 (by kernel_rfl))]
        refine hK _ ?_
        clear hK K
        refine wpAnyC_reads 9 hb1 (by kernel_rfl) (by kernel_rfl) (by kernel_rfl) (fun d _ _ _ _ h => by cases d <;> exact h) (fun oi ho K hK => ?_)
        simp only [List.getElem?_toArray, List.getElem?_cons_succ, List.getElem?_cons_zero, Option.some.injEq] at ho
        subst ho
        rw [if_neg (Bool.eq_false_iff.1 (by kernel_rfl))]
        refine hK _ ?_
        clear hK K
        refine wpAnyC_reads 10 hb1 (by kernel_rfl) (by kernel_rfl) (by kernel_rfl) (fun d _ _ _ _ h => by cases d <;> exact h) (fun oi ho K hK => ?_)
        simp only [List.getElem?_toArray, List.getElem?_cons_succ, List.getElem?_cons_zero, Option.some.injEq] at ho
        subst ho
        rw [if_neg (Bool.eq_false_iff.1 (by kernel_rfl))]
        refine hK _ ?_
        clear hK K
        refine wpAnyC_calls 11 (by kernel_rfl) (fun oi ho K hK => ?_)
        simp only [List.getElem?_toArray, List.getElem?_cons_succ, List.getElem?_cons_zero, Option.some.injEq] at ho
        subst ho
        go_simp
        refine hK _ _ hb1 ?_
        clear hK K
        refine wpAnyC_done (by kernel_rfl) ?_ _
        have bE := bWV.trans (hb1.mono bWV.size)
        go_wp2_with fail
        go_ret
        exact ⟨by rw [unhide hno]; rfl, bE⟩

      · rw [hq, Bool.true_and] at hat
        refine wpAnyC_reads 0 (Below.refl _ _) (by kernel_rfl) (by kernel_rfl) (by kernel_rfl) (fun d _ _ _ _ h => by cases d <;> exact h) (fun oi ho K hK => ?_)
        simp only [List.getElem?_toArray, List.getElem?_cons_zero, Option.some.injEq] at ho
        subst ho
        rw [if_pos (by kernel_rfl)]
        refine ⟨.agg (e.cs p), fun w' hw' => ?_, hK _ ?_⟩
        · have hu1 := xk.on (bV.trans (hw'.mono bV.size)) xk.lt
          obtain ⟨hp0, hp1, hp2, hp3, hp4, hp5, hp6, hp7, hp8, hp9, hp10⟩ := hu1.eleven
          go_simp
        clear hK K
        refine wpAnyC_calls 1 (by kernel_rfl) (fun oi ho K hK => ?_)
        simp only [List.getElem?_toArray, List.getElem?_cons_succ, List.getElem?_cons_zero, Option.some.injEq] at ho
        subst ho
        go_simp
        refine (unhide cE).mono ?_
        rintro r u1 ⟨rfl, hb1⟩
        rw [hq]
        go_simp
        refine hK _ _ hb1 ?_
        clear hK K
        refine wpAnyC_calls 2 (by kernel_rfl) (fun oi ho K hK => ?_)
        simp only [List.getElem?_toArray, List.getElem?_cons_succ, List.getElem?_cons_zero, Option.some.injEq] at ho
        subst ho
        go_simp
        refine hK _ _ hb1 ?_
        clear hK K
        refine wpAnyC_calls 3 (by kernel_rfl) (fun oi ho K hK => ?_)
        simp only [List.getElem?_toArray, List.getElem?_cons_succ, List.getElem?_cons_zero, Option.some.injEq] at ho
        subst ho
        go_simp
        refine hK _ _ hb1 ?_
        clear hK K
        refine wpAnyC_reads 4 hb1 (by kernel_rfl) (by kernel_rfl) (by kernel_rfl) (fun d _ _ _ _ h => by cases d <;> exact h) (fun oi ho K hK => ?_)
        simp only [List.getElem?_toArray, List.getElem?_cons_succ, List.getElem?_cons_zero, Option.some.injEq] at ho
        subst ho
        rw [if_pos (by kernel_rfl)]
        refine ⟨.slice (some ⟨b, off, none⟩) es.length cap, fun w' hw' => ?_, hK _ ?_⟩
        · have hu1 := xk.on (bV.trans (hw'.mono bV.size)) xk.lt
          obtain ⟨hp0, hp1, hp2, hp3, hp4, hp5, hp6, hp7, hp8, hp9, hp10⟩ := hu1.eleven
          go_simp
        clear hK K
        refine wpAnyC_reads 5 hb1 (by kernel_rfl) (by kernel_rfl) (by kernel_rfl) (fun d _ _ _ _ h => by cases d <;> exact h) (fun oi ho K hK => ?_)
        simp only [List.getElem?_toArray, List.getElem?_cons_succ, List.getElem?_cons_zero, Option.some.injEq] at ho
        subst ho
        rw [if_pos (by kernel_rfl)]
        refine ⟨.int .i64 k, fun w' hw' => ?_, hK _ ?_⟩
        · have hu1 := xk.on (bV.trans (hw'.mono bV.size)) xk.lt
          obtain ⟨hp0, hp1, hp2, hp3, hp4, hp5, hp6, hp7, hp8, hp9, hp10⟩ := hu1.eleven
          go_simp
        clear hK K
        refine wpAnyC_reads 7 hb1 (by kernel_rfl) (by kernel_rfl) (by kernel_rfl) (fun d _ _ _ _ h => by cases d <;> exact h) (fun oi ho K hK => ?_)
        simp only [List.getElem?_toArray, List.getElem?_cons_succ, List.getElem?_cons_zero, Option.some.injEq] at ho
        subst ho
        rw [if_pos (by kernel_rfl)]
        refine ⟨.pointer (some ⟨wr.heap.size, 0, none⟩), fun w' hw' => ?_, hK _ ?_⟩
        · have hu1 := xk.on (bV.trans (hw'.mono bV.size)) xk.lt
          obtain ⟨hp0, hp1, hp2, hp3, hp4, hp5, hp6, hp7, hp8, hp9, hp10⟩ := hu1.eleven
          go_simp
        clear hK K
        refine wpAnyC_reads 8 hb1 (by kernel_rfl) (by kernel_rfl) (by kernel_rfl) (fun d _ _ _ _ h => by cases d <;> exact h) (fun oi ho K hK => ?_)
        simp only [List.getElem?_toArray, List.getElem?_cons_succ, List.getElem?_cons_zero, Option.some.injEq] at ho
        subst ho
        rw [if_pos (by kernel_rfl)]
        refine ⟨.string e.al.1, fun w' hw' => ?_, hK _ ?_⟩
        · have hu1 := xk.on (bV.trans (hw'.mono bV.size)) xk.lt
          obtain ⟨hp0, hp1, hp2, hp3, hp4, hp5, hp6, hp7, hp8, hp9, hp10⟩ := hu1.eleven
          go_simp
        clear hK K
        refine wpAnyC_reads 6 hb1 (by kernel_rfl) (by kernel_rfl) (by kernel_rfl) (fun d _ _ _ _ h => by cases d <;> exact h) (fun oi ho K hK => ?_)
        simp only [List.getElem?_toArray, List.getElem?_cons_succ, List.getElem?_cons_zero, Option.some.injEq] at ho
        subst ho
        rw [if_pos (by kernel_rfl)]
        refine ⟨.slice (some ⟨b, off, none⟩) k cap, fun w' hw' => ?_, hK _ ?_⟩
        · have hu1 := xk.on (bV.trans (hw'.mono bV.size)) xk.lt
          obtain ⟨hp0, hp1, hp2, hp3, hp4, hp5, hp6, hp7, hp8, hp9, hp10⟩ := hu1.eleven
          go_simp
        clear hK K
        refine wpAnyC_calls 9 (by kernel_rfl) (fun oi ho K hK => ?_)
        simp only [List.getElem?_toArray, List.getElem?_cons_succ, List.getElem?_cons_zero, Option.some.injEq] at ho
        subst ho
        go_simp
        refine (unhide (hide (aliased_c e.al.1 u1))).mono ?_
        rintro r u2 ⟨rfl, eu⟩
        have hb2 : Below u1.heap.size u1 u2 := by rw [eu]; exact (Below.refl _ _).alloc (Nat.le_refl _) _
        have xa : Box u2 u1.heap.size 9 #[.string e.al.1] := by rw [eu]; exact Box.new _ _ _
        clear eu
        go_simp
        refine hK _ _ (hb1.trans (hb2.mono hb1.size)) ?_
        clear hK K
        have hb12 := hb1.trans (hb2.mono hb1.size)
        have cC := containsE_c (some ⟨b, off, none⟩) cap u1.heap.size e.al.1 (es.take k) u2 (((unhide hT).on bkV).on hb12) xa
        rw [unhide htl] at cC
        replace cC := hide cC
        refine wpAnyC_calls 10 (by kernel_rfl) (fun oi ho K hK => ?_)
        simp only [List.getElem?_toArray, List.getElem?_cons_succ, List.getElem?_cons_zero, Option.some.injEq] at ho
        subst ho
        go_simp
        refine (unhide cC).mono ?_
        rintro r u3 ⟨rfl, hb3⟩
        go_simp
        refine hK _ _ (hb12.trans (hb3.mono hb12.size)) ?_
        clear hK K
        have hb13 := hb12.trans (hb3.mono hb12.size)
        clear cC
        have bE := bWV.trans (hb13.mono bWV.size)
        cases hal : anyAl (es.take k) e.al.1
        · rw [hal] at hat
          have hn := hide (show rowTo es (k + 1) = true by rw [rowTo_succ, unhide hp, unhide hat]; rfl)
          refine wpAnyC_calls 11 (by kernel_rfl) (fun oi ho K hK => ?_)
          simp only [List.getElem?_toArray, List.getElem?_cons_succ, List.getElem?_cons_zero, Option.some.injEq] at ho
          subst ho
          go_simp
          refine hK _ _ hb13 ?_
          clear hK K
          refine wpAnyC_done (by kernel_rfl) ?_ _
          clear hT cE hIn
          go_wp2_with fail
          go_roundw
          case rel => exact ⟨k + 1, by omega, by go_num, hn, bE⟩
          case measure => simp [intOf]; omega
        · rw [hal] at hat
          have hno := hide (show rowB es = false by rw [unhide H]; exact rowTo_no es k hlt (unhide hat))
          refine wpAnyC_calls 11 (by kernel_rfl) (fun oi ho K hK => ?_)
          simp only [List.getElem?_toArray, List.getElem?_cons_succ, List.getElem?_cons_zero, Option.some.injEq] at ho
          subst ho
          go_simp
          refine hK _ _ hb13 ?_
          clear hK K
          refine wpAnyC_done (by kernel_rfl) ?_ _
          clear hT cE hIn
          go_wp2_with fail
          go_ret
          exact ⟨by rw [unhide hno]; rfl, bE⟩

    · have hke : rowTo es es.length = true := by
        have := unhide hp
        rwa [show k = es.length by omega] at this
      replace hke := hide hke
      go_wp2_with fail
      go_ret
      exact ⟨by rw [unhide H, unhide hke]; rfl, hb⟩

end Go.Proofs.YtfofpenajkaalaaDoor
