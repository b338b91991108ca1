/-
  What pattern of package show gives, and what its face answers: the texts of values, conditions, patterns.
-/
import Derived.Test.YtfofpenajkaalaaDoorRow8
namespace Go.Proofs.YtfofpenajkaalaaDoor
open Go.RowKit Go.Shelf

abbrev seqB : ByteArray := ⟨#[83, 69, 81, 40]⟩
abbrev wiB : ByteArray := ⟨#[41, 32, 87, 73, 84, 72, 73, 78, 32]⟩
abbrev byB : ByteArray := ⟨#[32, 66, 89, 32]⟩
abbrev anyB : ByteArray := ⟨#[32, 65, 78, 89]⟩
def itoaB (n : Int) : ByteArray := ⟨(Lib.itoa n).toArray⟩
/-- The pieces of a pattern's text. -/
def patP (q : Pt) : List ByteArray := [[seqB], (rowS q.es).flatten, [wiB, itoaB q.wi], if !(q.nm.1.toList == []) then [byB, q.nm.1] else [], if q.any then [anyB] else []].flatten

theorem itoa_c (n : Int) (h0 : -9223372036854775808 ≤ n) (h1 : n ≤ 9223372036854775807) (w : World) (hV : Vars w) :
    Calls Tryd.prog 52 #[.int .i64 n] w fun e w' => ∃ u, e = .returned u ∧ u = .string (itoaB n) ∧ Below w.heap.size w w' :=
  (Tryd.strconv_Itoa n h0 h1 w hV.tab).mono fun e w' ⟨he, k, os, ew⟩ => ⟨_, he, rfl, by rw [ew]; exact Go.Lib.below_grow _ _ (Nat.le_refl _) _ _⟩

/-- A pattern is as it may be, as far as its text wants it. -/
def PGood (q : Pt) : Prop := (∀ e ∈ q.es, EGood e) ∧ q.es.length ≤ 5 ∧ 0 ≤ q.wi ∧ q.wi ≤ 1000

set_option maxRecDepth 100000 in
set_option maxHeartbeats 8000000 in
theorem patt_c (m : Nat) (q : Pt) (a : Option Addr) (cap : Nat) (hG : PGood q) (w : World) (hm : m ≤ w.heap.size) (hE : EmsK w.heap.size w a q.es) (hV : Vars w) :
    Calls Tryd.prog 28 #[q.v a cap] w fun r w' => ∃ u, r = .returned u ∧ Pcs m w' u (patP q) ∧ Below w.heap.size w w' := by
  have hmx : Tryd.prog.follows .mixedOrders = true := by kernel_rfl
  obtain ⟨hE5, h5, hw0, hw1⟩ := hG
  have h0 : -9223372036854775808 ≤ q.wi := by omega
  have h1 : q.wi ≤ 9223372036854775807 := by omega
  have hu := hide (show patP q = [[seqB], (rowS q.es).flatten, [wiB, itoaB q.wi], if !(q.nm.1.toList == []) then [byB, q.nm.1] else [], if q.any then [anyB] else []].flatten from rfl)
  obtain ⟨W0, hW0⟩ : ∃ W0, W0 = w.alloc (.cells (q.cs a cap) 29) := ⟨_, rfl⟩
  have b0 : Below w.heap.size w W0 := by rw [hW0]; exact (Below.refl _ _).alloc (Nat.le_refl _) _
  have x0 : Box W0 w.heap.size 29 (q.cs a cap) := by rw [hW0]; exact Box.new _ _ _
  obtain ⟨V, hVd⟩ : ∃ V, V = ({ heap := W0.heap, tape := W0.tape, drawn := W0.drawn + 1, os := W0.os, output := W0.output } : World) := ⟨_, rfl⟩
  have bV : Below W0.heap.size W0 V := by rw [hVd]; exact (Below.refl _ _).drew
  have xV := x0.on bV x0.lt
  go_enter Tryd.func28, Tryd.ntmps28
  go_upto_region 1 with fail
  rw [show Obj.cells #[Value.slice a q.es.length cap, .int .i64 q.wi, .string q.nm.1, .bool q.any] 29 = Obj.cells (q.cs a cap) 29 from rfl, ← hW0]
  clear hW0
  refine wp_region_any hmx ?_
  rw [← hVd]
  clear hVd
  refine wpAny_facts (fun x y => Below x.heap.size x y) (fun x => Below.refl _ _) (fun h k => h.trans (k.mono h.size)) (fun i v w' => (([.row [seqB], .pcs [seqB], .is (.pointer (some ⟨w.heap.size, 0, none⟩)), .is (.slice a q.es.length cap), .pcs ((rowS q.es).flatten), .is (.pointer (some ⟨w.heap.size, 1, none⟩)), .is (.int .i64 q.wi), .is (.string (itoaB q.wi)), .row [wiB, itoaB q.wi], .pcs [wiB, itoaB q.wi], .is (.pointer (some ⟨w.heap.size, 2, none⟩)), .is (.string q.nm.1), .is (.bool (!(q.nm.1.toList == []))), .is (.pointer (some ⟨w.heap.size, 2, none⟩)), .is (.string q.nm.1), .row [byB, q.nm.1], .pcs (if !(q.nm.1.toList == []) then [byB, q.nm.1] else []), .is (.pointer (some ⟨w.heap.size, 3, none⟩)), .is (.bool q.any), .row [anyB], .pcs (if q.any then [anyB] else []), .parts [[seqB], ((rowS q.es).flatten), [wiB, itoaB q.wi], (if !(q.nm.1.toList == []) then [byB, q.nm.1] else []), (if q.any then [anyB] else [])], .pcs ([[seqB], ((rowS q.es).flatten), [wiB, itoaB q.wi], (if !(q.nm.1.toList == []) then [byB, q.nm.1] else []), (if q.any then [anyB] else [])].flatten), .pcs ([[seqB], ((rowS q.es).flatten), [wiB, itoaB q.wi], (if !(q.nm.1.toList == []) then [byB, q.nm.1] else []), (if q.any then [anyB] else [])].flatten)] : List Fa).getD i .any).ok m v w') (fun i v w' w'' h hb => Fa.on m _ v w' w'' h hb) _ V (by kernel_rfl) (by kernel_rfl) ?hstep ?hdone
  case hstep =>
    rintro listed aa w' i oi F hr ho
    have bw : Below w.heap.size w w' := b0.trans ((bV.trans (F.bel.mono bV.size)).mono b0.size)
    have hmw : m ≤ w'.heap.size := Nat.le_trans hm bw.size
    have xw := xV.on F.bel xV.lt
    have e1 : aa.eval (.tmp 1) = .pointer (some ⟨w.heap.size, 0, none⟩) := (F.old 1 (noDst_spec (by kernel_rfl))).trans rfl
    have hi := (Array.getElem?_eq_some_iff.1 ho).1
    obtain rfl | rfl | rfl | rfl | rfl | rfl | rfl | rfl | rfl | rfl | rfl | rfl | rfl | rfl | rfl | rfl | rfl | rfl | rfl | rfl | rfl | rfl | rfl | rfl : i = 0 ∨ i = 1 ∨ i = 2 ∨ i = 3 ∨ i = 4 ∨ i = 5 ∨ i = 6 ∨ i = 7 ∨ i = 8 ∨ i = 9 ∨ i = 10 ∨ i = 11 ∨ i = 12 ∨ i = 13 ∨ i = 14 ∨ i = 15 ∨ i = 16 ∨ i = 17 ∨ i = 18 ∨ i = 19 ∨ i = 20 ∨ i = 21 ∨ i = 22 ∨ i = 23 := by simp at hi; omega
    all_goals
      simp only [List.getElem?_toArray, List.getElem?_cons_succ, List.getElem?_cons_zero, Option.some.injEq] at ho
      subst ho
    · exact step_row hmw 1 _ rfl [seqB] rfl (by decide) (by decide) (by simp [Act.eval])
    · have dd := F.got 0 _ 3 rfl (ready_dep hr 0 (by kernel_rfl)) rfl
      exact step_plain hmw (.tmp 3) _ rfl _ dd
    · refine step_read _ ?_
      simp only [execOp, e1]
      go_simp
    · have dd := F.got 2 _ 5 rfl (ready_dep hr 2 (by kernel_rfl)) rfl
      obtain ⟨k0, k1, k2, k3⟩ := xw.four
      refine step_read _ ?_
      simp only [execOp, eval_tmp, show aa.tmps.getD 5 undef = _ from dd]
      go_simp
    · have dd := F.got 3 _ 6 rfl (ready_dep hr 3 (by kernel_rfl)) rfl
      exact step_call 51 _ _ rfl (enters_of Tryd.func51 (by kernel_rfl) rfl) #[.slice a q.es.length cap] (by simp [eval_tmp, show aa.tmps.getD 6 undef = _ from dd]) (row_c m q.es a cap hE5 h5 w' hmw (hE.on bw) (hV.on bw))
    · refine step_read _ ?_
      simp only [execOp, e1]
      go_simp
    · have dd := F.got 5 _ 8 rfl (ready_dep hr 5 (by kernel_rfl)) rfl
      obtain ⟨k0, k1, k2, k3⟩ := xw.four
      refine step_read _ ?_
      simp only [execOp, eval_tmp, show aa.tmps.getD 8 undef = _ from dd]
      go_simp
    · have d6 := F.got 6 _ 9 rfl (ready_dep hr 6 (by kernel_rfl)) rfl
      have d6' : aa.tmps.getD 9 undef = .int .i64 q.wi := d6
      rw [Array.getD_eq_getD_getElem?] at d6'
      exact step_call 52 _ _ rfl (enters_of Tryd.func52 (by kernel_rfl) rfl) #[.int .i64 q.wi] (by simp [Act.eval, d6']) (itoa_c q.wi h0 h1 w' (hV.on bw))
    · have d7 := F.got 7 _ 10 rfl (ready_dep hr 7 (by kernel_rfl)) rfl
      have d7' : aa.tmps.getD 10 undef = .string (itoaB q.wi) := d7
      rw [Array.getD_eq_getD_getElem?] at d7'
      exact step_row hmw 2 _ rfl [wiB, itoaB q.wi] rfl (by decide) (by decide) (by simp [Act.eval, d7'])
    · have dd := F.got 8 _ 11 rfl (ready_dep hr 8 (by kernel_rfl)) rfl
      exact step_plain hmw (.tmp 11) _ rfl _ dd
    · refine step_read _ ?_
      simp only [execOp, e1]
      go_simp
    · have dd := F.got 10 _ 13 rfl (ready_dep hr 10 (by kernel_rfl)) rfl
      obtain ⟨k0, k1, k2, k3⟩ := xw.four
      refine step_read _ ?_
      simp only [execOp, eval_tmp, show aa.tmps.getD 13 undef = _ from dd]
      go_simp
    · have dd := F.got 11 _ 14 rfl (ready_dep hr 11 (by kernel_rfl)) rfl
      refine step_read _ ?_
      simp only [execOp, eval_tmp, show aa.tmps.getD 14 undef = _ from dd]
      go_simp
    · refine step_read _ ?_
      simp only [execOp, e1]
      go_simp
    · have dd := F.got 13 _ 16 rfl (ready_dep hr 13 (by kernel_rfl)) rfl
      obtain ⟨k0, k1, k2, k3⟩ := xw.four
      refine step_read _ ?_
      simp only [execOp, eval_tmp, show aa.tmps.getD 16 undef = _ from dd]
      go_simp
    · have d14 := F.got 14 _ 17 rfl (ready_dep hr 14 (by kernel_rfl)) rfl
      have d14' : aa.tmps.getD 17 undef = .string q.nm.1 := d14
      rw [Array.getD_eq_getD_getElem?] at d14'
      exact step_row hmw 2 _ rfl [byB, q.nm.1] rfl (by decide) (by decide) (by simp [Act.eval, d14'])
    · have d12 := F.got 12 _ 15 rfl (ready_dep hr 12 (by kernel_rfl)) rfl
      have d12' : aa.tmps.getD 15 undef = .bool (!(q.nm.1.toList == [])) := d12
      rw [Array.getD_eq_getD_getElem?] at d12'
      have d15 := F.got 15 _ 18 rfl (ready_dep hr 15 (by kernel_rfl)) rfl
      exact step_call 53 _ _ rfl (enters_of Tryd.func53 (by kernel_rfl) rfl) #[.bool (!(q.nm.1.toList == [])), aa.tmps.getD 18 undef] (by simp [Act.eval, d12']) (plainIf_c m _ _ [byB, q.nm.1] w' hmw d15)
    · refine step_read _ ?_
      simp only [execOp, e1]
      go_simp
    · have dd := F.got 17 _ 20 rfl (ready_dep hr 17 (by kernel_rfl)) rfl
      obtain ⟨k0, k1, k2, k3⟩ := xw.four
      refine step_read _ ?_
      simp only [execOp, eval_tmp, show aa.tmps.getD 20 undef = _ from dd]
      go_simp
    · exact step_row hmw 1 _ rfl [anyB] rfl (by decide) (by decide) (by simp [Act.eval])
    · have d18 := F.got 18 _ 21 rfl (ready_dep hr 18 (by kernel_rfl)) rfl
      have d18' : aa.tmps.getD 21 undef = .bool q.any := d18
      rw [Array.getD_eq_getD_getElem?] at d18'
      have d19 := F.got 19 _ 22 rfl (ready_dep hr 19 (by kernel_rfl)) rfl
      exact step_call 53 _ _ rfl (enters_of Tryd.func53 (by kernel_rfl) rfl) #[.bool q.any, aa.tmps.getD 22 undef] (by simp [Act.eval, d18']) (plainIf_c m q.any _ [anyB] w' hmw d19)
    · have d1 := F.got 1 _ 4 rfl (ready_dep hr 1 (by kernel_rfl)) rfl
      have d4 := F.got 4 _ 7 rfl (ready_dep hr 4 (by kernel_rfl)) rfl
      have d9 := F.got 9 _ 12 rfl (ready_dep hr 9 (by kernel_rfl)) rfl
      have d16 := F.got 16 _ 19 rfl (ready_dep hr 16 (by kernel_rfl)) rfl
      have d20 := F.got 20 _ 23 rfl (ready_dep hr 20 (by kernel_rfl)) rfl
      exact step_parts hmw 5 _ rfl [aa.tmps.getD 4 undef, aa.tmps.getD 7 undef, aa.tmps.getD 12 undef, aa.tmps.getD 19 undef, aa.tmps.getD 23 undef] [[seqB], ((rowS q.es).flatten), [wiB, itoaB q.wi], (if !(q.nm.1.toList == []) then [byB, q.nm.1] else []), (if q.any then [anyB] else [])] rfl rfl (by decide) (by decide) (fun j u ps hu hp => by
        match j, hu, hp with
        | 0, hu, hp => cases hu; cases hp; exact d1
        | 1, hu, hp => cases hu; cases hp; exact d4
        | 2, hu, hp => cases hu; cases hp; exact d9
        | 3, hu, hp => cases hu; cases hp; exact d16
        | 4, hu, hp => cases hu; cases hp; exact d20
        | j + 5, hu, hp => simp at hu) (by simp [Act.eval])
    · have dd := F.got 21 _ 24 rfl (ready_dep hr 21 (by kernel_rfl)) rfl
      exact step_all hmw (.tmp 24) _ rfl _ dd
    · have dd := F.got 22 _ 25 rfl (ready_dep hr 22 (by kernel_rfl)) rfl
      exact step_assign (.tmp 25) (.inl rfl) dd
  case hdone =>
    intro aa w' hz hd hb hold hall
    have d9 := hall 23 _ 2 rfl rfl
    rename_i hret
    refine hret aa w' ?_
    go_wp2_with fail
    refine bodyPost_ret (results_tmp rfl _ _ _) hd ⟨_, rfl, by rw [unhide hu]; exact d9, b0.trans ((bV.trans (hb.mono bV.size)).mono b0.size)⟩

end Go.Proofs.YtfofpenajkaalaaDoor
