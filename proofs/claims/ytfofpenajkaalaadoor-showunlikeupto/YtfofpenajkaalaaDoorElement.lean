/-
  What asked and element of package show give: the pieces of an element's text.
-/
import Derived.Test.YtfofpenajkaalaaDoorCond
namespace Go.Proofs.YtfofpenajkaalaaDoor
open Go.RowKit Go.Shelf

abbrev obB : ByteArray := ⟨#[91]⟩
abbrev cbB : ByteArray := ⟨#[93]⟩
abbrev exB : ByteArray := ⟨#[33]⟩
abbrev coB : ByteArray := ⟨#[58]⟩
abbrev barB : ByteArray := ⟨#[124]⟩
abbrev plB : ByteArray := ⟨#[43]⟩
/-- The pieces of what an element asks for. -/
def askP (t : Tree) : List ByteArray := if t.dat.op = 0 then [] else [[obB], condP t, [cbB]].flatten
/-- The types of an element, as its text has them. -/
def joinB (ts : List Txt) : ByteArray := ⟨(Lib.join (ts.map fun t => t.1.data.toList) barB.data.toList).toArray⟩
def elemP (e : Em) : List ByteArray := [if e.nt then [exB] else [], [e.al.1, coB, joinB e.ts], if e.pl then [plB] else [], askP e.t].flatten

set_option maxRecDepth 100000 in
set_option maxHeartbeats 4000000 in
theorem asked_c (m : Nat) (t : Tree) (hS : t.dat.op = 0 ∨ Snd t) (a : Option Addr) (cap : Nat) (w : World) (hm : m ≤ w.heap.size) (hL : Lies w.heap.size w a t.kids) (hV : Vars w) :
    Calls Tryd.prog 83 #[t.dat.v a t.kids.length cap] w fun e w' => ∃ u, e = .returned u ∧ Pcs m w' u (askP t) ∧ Below w.heap.size w w' := by
  have hmx : Tryd.prog.follows .mixedOrders = true := by kernel_rfl
  obtain ⟨W0, hW0⟩ : ∃ W0, W0 = w.alloc (.cells (t.dat.cs a t.kids.length cap) 26) := ⟨_, rfl⟩
  have b0 : Below w.heap.size w W0 := by rw [hW0]; exact (Below.refl _ _).alloc (Nat.le_refl _) _
  have x0 : Box W0 w.heap.size 26 (t.dat.cs a t.kids.length cap) := by rw [hW0]; exact Box.new _ _ _
  obtain ⟨c0, c1, c2, c3, c4, c5, c6⟩ := x0.seven
  by_cases q0 : t.dat.op = 0
  · have hu := hide (show askP t = [] by rw [askP, if_pos q0])
    have e0 : (t.dat.op == 0) = true := by simp [q0]
    have hp := hide (plain_c m (.slice none 0 0) [] W0 (Nat.le_trans hm b0.size) (RowV.nil _ _ _ _ _))
    clear q0 hS
    go_enter Tryd.func83, Tryd.ntmps83
    go_upto_region 1 with fail
    rw [show Obj.cells #[Value.int .i64 t.dat.op, .int .i64 t.dat.k, .int .i64 t.dat.n, .string t.dat.s.1, .string t.dat.al.1, .string t.dat.fd.1, .slice a t.kids.length cap] 26 = Obj.cells (t.dat.cs a t.kids.length cap) 26 from rfl, ← hW0]
    clear hW0
    go_wp2_with fail
    refine (unhide hp).mono ?_
    rintro e w1 ⟨u, rfl, hp1, hb1⟩
    go_wp2_with fail
    go_ret
    exact ⟨_, rfl, by rw [unhide hu]; exact hp1, b0.trans (hb1.mono b0.size)⟩
  have e0 : (t.dat.op == 0) = false := by simp [q0]
  replace hS := hS.resolve_left q0
  have hu := hide (show askP t = [[obB], condP t, [cbB]].flatten by rw [askP, if_neg q0])
  clear q0
  obtain ⟨V, hVd⟩ : ∃ V, V = ({ heap := W0.heap, tape := W0.tape, drawn := W0.drawn + 1, os := W0.os, output := W0.output } : World) := ⟨_, rfl⟩
  have bV : Below W0.heap.size W0 V := by rw [hVd]; exact (Below.refl _ _).drew
  have xV := x0.on bV x0.lt
  go_enter Tryd.func83, Tryd.ntmps83
  go_upto_region 1 with fail
  rw [show Obj.cells #[Value.int .i64 t.dat.op, .int .i64 t.dat.k, .int .i64 t.dat.n, .string t.dat.s.1, .string t.dat.al.1, .string t.dat.fd.1, .slice a t.kids.length cap] 26 = Obj.cells (t.dat.cs a t.kids.length cap) 26 from rfl, ← hW0]
  clear hW0
  go_upto_region 3 with fail
  refine wp_region_any hmx ?_
  rw [← hVd]
  clear hVd
  refine wpAny_facts (fun x y => Below x.heap.size x y) (fun x => Below.refl _ _) (fun h k => h.trans (k.mono h.size)) (fun i v w' => (([.row [obB], .pcs [obB], .is (t.dat.v a t.kids.length cap), .pcs (condP t), .row [cbB], .pcs [cbB], .parts [[obB], (condP t), [cbB]], .pcs ([[obB], (condP t), [cbB]].flatten), .pcs ([[obB], (condP t), [cbB]].flatten)] : List Fa).getD i .any).ok m v w') (fun i v w' w'' h hb => Fa.on m _ v w' w'' h hb) _ V (by kernel_rfl) (by kernel_rfl) ?hstep ?hdone
  case hstep =>
    rintro listed aa w' i oi F hr ho
    have bw : Below w.heap.size w w' := b0.trans ((bV.trans (F.bel.mono bV.size)).mono b0.size)
    have hmw : m ≤ w'.heap.size := Nat.le_trans hm bw.size
    have xw := xV.on F.bel xV.lt
    have e1 : aa.eval (.tmp 1) = .pointer (some ⟨w.heap.size, 0, none⟩) := (F.old 1 (noDst_spec (by kernel_rfl))).trans rfl
    have hi := (Array.getElem?_eq_some_iff.1 ho).1
    obtain rfl | rfl | rfl | rfl | rfl | rfl | rfl | rfl | rfl : i = 0 ∨ i = 1 ∨ i = 2 ∨ i = 3 ∨ i = 4 ∨ i = 5 ∨ i = 6 ∨ i = 7 ∨ i = 8 := by simp at hi; omega
    all_goals
      simp only [List.getElem?_toArray, List.getElem?_cons_succ, List.getElem?_cons_zero, Option.some.injEq] at ho
      subst ho
    · exact step_row hmw 1 _ rfl [obB] rfl (by decide) (by decide) (by simp [Act.eval])
    · have dd := F.got 0 _ 7 rfl (ready_dep hr 0 (by kernel_rfl)) rfl
      exact step_plain hmw (.tmp 7) _ rfl _ dd
    · obtain ⟨k0, k1, k2, k3, k4, k5, k6⟩ := xw.seven
      refine step_read _ ?_
      simp only [execOp, e1]
      go_simp
    · have dd := F.got 2 _ 9 rfl (ready_dep hr 2 (by kernel_rfl)) rfl
      exact step_call 25 _ _ rfl (enters_of Tryd.func25 (by kernel_rfl) rfl) #[t.dat.v a t.kids.length cap] (by simp [eval_tmp, show aa.tmps.getD 9 undef = _ from dd]) (condition_c m t hS a cap w' hmw (hL.on bw) (hV.on bw))
    · exact step_row hmw 1 _ rfl [cbB] rfl (by decide) (by decide) (by simp [Act.eval])
    · have dd := F.got 4 _ 11 rfl (ready_dep hr 4 (by kernel_rfl)) rfl
      exact step_plain hmw (.tmp 11) _ rfl _ dd
    · have d1 := F.got 1 _ 8 rfl (ready_dep hr 1 (by kernel_rfl)) rfl
      have d3 := F.got 3 _ 10 rfl (ready_dep hr 3 (by kernel_rfl)) rfl
      have d5 := F.got 5 _ 12 rfl (ready_dep hr 5 (by kernel_rfl)) rfl
      exact step_parts hmw 3 _ rfl [aa.tmps.getD 8 undef, aa.tmps.getD 10 undef, aa.tmps.getD 12 undef] [[obB], (condP t), [cbB]] rfl rfl (by decide) (by decide) (fun j u ps hu hp => by
        match j, hu, hp with
        | 0, hu, hp => cases hu; cases hp; exact d1
        | 1, hu, hp => cases hu; cases hp; exact d3
        | 2, hu, hp => cases hu; cases hp; exact d5
        | j + 3, hu, hp => simp at hu) (by simp [Act.eval])
    · have dd := F.got 6 _ 13 rfl (ready_dep hr 6 (by kernel_rfl)) rfl
      exact step_all hmw (.tmp 13) _ rfl _ dd
    · have dd := F.got 7 _ 14 rfl (ready_dep hr 7 (by kernel_rfl)) rfl
      exact step_assign (.tmp 14) (.inl rfl) dd
  case hdone =>
    intro aa w' hz hd hb hold hall
    have d9 := hall 8 _ 2 rfl rfl
    rename_i hret
    refine hret aa w' ?_
    go_wp2_with fail
    refine bodyPost_ret (results_tmp rfl _ _ _) hd ⟨_, rfl, by rw [unhide hu]; exact d9, b0.trans ((bV.trans (hb.mono bV.size)).mono b0.size)⟩


theorem join_len (ts : List Txt) (h3 : ts.length ≤ 3) (h8 : ∀ t ∈ ts, t.1.size ≤ 8) : (Lib.join (ts.map fun t => t.1.data.toList) barB.data.toList).length ≤ 100 := by
  have hz : ∀ t : Txt, t.1.data.toList.length = t.1.size := fun t => Array.length_toList ..
  match ts, h3, h8 with
  | [], _, _ => simp [Lib.join, List.intercalate]
  | [a], _, h => have := h a (by simp); have := hz a; simp [Lib.join, List.intercalate] at *; omega
  | [a, b], _, h => have := h a (by simp); have := h b (by simp); have := hz a; have := hz b; simp [Lib.join, List.intercalate] at *; omega
  | [a, b, c], _, h => have := h a (by simp); have := h b (by simp); have := h c (by simp); have := hz a; have := hz b; have := hz c; simp [Lib.join, List.intercalate] at *; omega
theorem join_c (ts : List Txt) (a : Option Addr) (c : Nat) (w : World) (h3 : 1 ≤ ts.length ∧ ts.length ≤ 3) (h8 : ∀ t ∈ ts, t.1.size ≤ 8) (hcap : ts.length ≤ c) (hT : Txts w.heap.size w a ts) :
    Calls Tryd.prog 82 #[.slice a ts.length c, .string barB] w fun e w' => ∃ u, e = .returned u ∧ u = .string (joinB ts) ∧ Below w.heap.size w w' := by
  rcases hT.2 with h0 | ⟨b, off, rfl, hb, hc⟩
  · rw [h0] at h3; simp at h3
  have hl := join_len ts h3.2 h8
  have := Tryd.strings_Join b off c (ts.map (·.1)) barB w (fun j x hx => by
    rw [List.getElem?_map] at hx
    obtain ⟨t, ht, rfl⟩ := Option.map_eq_some_iff.1 hx
    exact hc j t ht) hb (by simp; omega) (by simpa using hcap) (by rw [List.map_map]; exact Nat.le_trans hl (by decide))
  rw [List.length_map, List.map_map] at this
  refine this.mono ?_
  rintro e w' ⟨rfl, hb'⟩
  exact ⟨_, rfl, rfl, hb'⟩

/-- An element is as it may be, as far as its text wants it. -/
def EGood (e : Em) : Prop := (e.t.dat.op = 0 ∨ Snd e.t) ∧ (1 ≤ e.ts.length ∧ e.ts.length ≤ 3) ∧ ∀ t ∈ e.ts, t.1.size ≤ 8

set_option maxRecDepth 100000 in
set_option maxHeartbeats 8000000 in
theorem element_c (m : Nat) (e : Em) (p : Pl) (hG : EGood e) (hcap : e.ts.length ≤ p.tc) (w : World) (hm : m ≤ w.heap.size) (hE : EmIn w.heap.size w e p) (hV : Vars w) :
    Calls Tryd.prog 70 #[e.v p] w fun r w' => ∃ u, r = .returned u ∧ Pcs m w' u (elemP e) ∧ Below w.heap.size w w' := by
  have hmx : Tryd.prog.follows .mixedOrders = true := by kernel_rfl
  obtain ⟨hS, h3, h8⟩ := hG
  obtain ⟨hT, hK⟩ := hE
  have hu := hide (show elemP e = [if e.nt then [exB] else [], [e.al.1, coB, joinB e.ts], if e.pl then [plB] else [], askP e.t].flatten from rfl)
  obtain ⟨W0, hW0⟩ : ∃ W0, W0 = w.alloc (.cells (e.cs p) 42) := ⟨_, rfl⟩
  have b0 : Below w.heap.size w W0 := by rw [hW0]; exact (Below.refl _ _).alloc (Nat.le_refl _) _
  have x0 : Box W0 w.heap.size 42 (e.cs p) := by rw [hW0]; exact Box.new _ _ _
  obtain ⟨V, hVd⟩ : ∃ V, V = ({ heap := W0.heap, tape := W0.tape, drawn := W0.drawn + 1, os := W0.os, output := W0.output } : World) := ⟨_, rfl⟩
  have bV : Below W0.heap.size W0 V := by rw [hVd]; exact (Below.refl _ _).drew
  have xV := x0.on bV x0.lt
  go_enter Tryd.func70, Tryd.ntmps70
  go_upto_region 1 with fail
  rw [show Obj.cells #[Value.string e.al.1, .slice p.ta e.ts.length p.tc, .bool e.pl, .bool e.nt, .int .i64 e.t.dat.op, .int .i64 e.t.dat.k, .int .i64 e.t.dat.n, .string e.t.dat.s.1, .string e.t.dat.al.1, .string e.t.dat.fd.1, .slice p.ka e.t.kids.length p.kc] 42 = Obj.cells (e.cs p) 42 from rfl, ← hW0]
  clear hW0
  refine wp_region_any hmx ?_
  rw [← hVd]
  clear hVd
  refine wpAny_facts (fun x y => Below x.heap.size x y) (fun x => Below.refl _ _) (fun h k => h.trans (k.mono h.size)) (fun i v w' => (([.is (.pointer (some ⟨w.heap.size, 3, none⟩)), .is (.bool e.nt), .row [exB], .pcs (if e.nt then [exB] else []), .is (.pointer (some ⟨w.heap.size, 0, none⟩)), .is (.string e.al.1), .is (.pointer (some ⟨w.heap.size, 1, none⟩)), .is (.slice p.ta e.ts.length p.tc), .is (.string (joinB e.ts)), .row [e.al.1, coB, joinB e.ts], .pcs [e.al.1, coB, joinB e.ts], .is (.pointer (some ⟨w.heap.size, 2, none⟩)), .is (.bool e.pl), .row [plB], .pcs (if e.pl then [plB] else []), .is (.pointer (some ⟨w.heap.size, 4, none⟩)), .is (e.t.dat.v p.ka e.t.kids.length p.kc), .pcs (askP e.t), .parts [(if e.nt then [exB] else []), [e.al.1, coB, joinB e.ts], (if e.pl then [plB] else []), (askP e.t)], .pcs ([(if e.nt then [exB] else []), [e.al.1, coB, joinB e.ts], (if e.pl then [plB] else []), (askP e.t)].flatten), .pcs ([(if e.nt then [exB] else []), [e.al.1, coB, joinB e.ts], (if e.pl then [plB] else []), (askP e.t)].flatten)] : List Fa).getD i .any).ok m v w') (fun i v w' w'' h hb => Fa.on m _ v w' w'' h hb) _ V (by kernel_rfl) (by kernel_rfl) ?hstep ?hdone
  case hstep =>
    rintro listed aa w' i oi F hr ho
    have bw : Below w.heap.size w w' := b0.trans ((bV.trans (F.bel.mono bV.size)).mono b0.size)
    have hmw : m ≤ w'.heap.size := Nat.le_trans hm bw.size
    have xw := xV.on F.bel xV.lt
    have e1 : aa.eval (.tmp 1) = .pointer (some ⟨w.heap.size, 0, none⟩) := (F.old 1 (noDst_spec (by kernel_rfl))).trans rfl
    have hi := (Array.getElem?_eq_some_iff.1 ho).1
    obtain rfl | rfl | rfl | rfl | rfl | rfl | rfl | rfl | rfl | rfl | rfl | rfl | rfl | rfl | rfl | rfl | rfl | rfl | rfl | rfl | rfl : i = 0 ∨ i = 1 ∨ i = 2 ∨ i = 3 ∨ i = 4 ∨ i = 5 ∨ i = 6 ∨ i = 7 ∨ i = 8 ∨ i = 9 ∨ i = 10 ∨ i = 11 ∨ i = 12 ∨ i = 13 ∨ i = 14 ∨ i = 15 ∨ i = 16 ∨ i = 17 ∨ i = 18 ∨ i = 19 ∨ i = 20 := by simp at hi; omega
    all_goals
      simp only [List.getElem?_toArray, List.getElem?_cons_succ, List.getElem?_cons_zero, Option.some.injEq] at ho
      subst ho
    · refine step_read _ ?_
      simp only [execOp, e1]
      go_simp
    · have dd := F.got 0 _ 3 rfl (ready_dep hr 0 (by kernel_rfl)) rfl
      obtain ⟨k0, k1, k2, k3, k4, k5, k6, k7, k8, k9, k10⟩ := xw.eleven
      refine step_read _ ?_
      simp only [execOp, eval_tmp, show aa.tmps.getD 3 undef = _ from dd]
      go_simp
    · exact step_row hmw 1 _ rfl [exB] rfl (by decide) (by decide) (by simp [Act.eval])
    · have d1 := F.got 1 _ 4 rfl (ready_dep hr 1 (by kernel_rfl)) rfl
      have d1' : aa.tmps.getD 4 undef = .bool e.nt := d1
      rw [Array.getD_eq_getD_getElem?] at d1'
      have d2 := F.got 2 _ 5 rfl (ready_dep hr 2 (by kernel_rfl)) rfl
      exact step_call 53 _ _ rfl (enters_of Tryd.func53 (by kernel_rfl) rfl) #[.bool e.nt, aa.tmps.getD 5 undef] (by simp [Act.eval, d1']) (plainIf_c m e.nt _ [exB] w' hmw d2)
    · refine step_read _ ?_
      simp only [execOp, e1]
      go_simp
    · have dd := F.got 4 _ 7 rfl (ready_dep hr 4 (by kernel_rfl)) rfl
      obtain ⟨k0, k1, k2, k3, k4, k5, k6, k7, k8, k9, k10⟩ := xw.eleven
      refine step_read _ ?_
      simp only [execOp, eval_tmp, show aa.tmps.getD 7 undef = _ from dd]
      go_simp
    · refine step_read _ ?_
      simp only [execOp, e1]
      go_simp
    · have dd := F.got 6 _ 9 rfl (ready_dep hr 6 (by kernel_rfl)) rfl
      obtain ⟨k0, k1, k2, k3, k4, k5, k6, k7, k8, k9, k10⟩ := xw.eleven
      refine step_read _ ?_
      simp only [execOp, eval_tmp, show aa.tmps.getD 9 undef = _ from dd]
      go_simp
    · have d7 := F.got 7 _ 10 rfl (ready_dep hr 7 (by kernel_rfl)) rfl
      have d7' : aa.tmps.getD 10 undef = .slice p.ta e.ts.length p.tc := d7
      rw [Array.getD_eq_getD_getElem?] at d7'
      exact step_call 82 _ _ rfl (enters_of Tryd.func82 (by kernel_rfl) rfl) #[.slice p.ta e.ts.length p.tc, .string barB] (by simp [Act.eval, d7']) (join_c e.ts p.ta p.tc w' h3 h8 hcap (hT.on bw))
    · have d5 := F.got 5 _ 8 rfl (ready_dep hr 5 (by kernel_rfl)) rfl
      have d5' : aa.tmps.getD 8 undef = .string e.al.1 := d5
      rw [Array.getD_eq_getD_getElem?] at d5'
      have d8 := F.got 8 _ 11 rfl (ready_dep hr 8 (by kernel_rfl)) rfl
      have d8' : aa.tmps.getD 11 undef = .string (joinB e.ts) := d8
      rw [Array.getD_eq_getD_getElem?] at d8'
      exact step_row hmw 3 _ rfl [e.al.1, coB, joinB e.ts] rfl (by decide) (by decide) (by simp [Act.eval, d5', d8'])
    · have dd := F.got 9 _ 12 rfl (ready_dep hr 9 (by kernel_rfl)) rfl
      exact step_plain hmw (.tmp 12) _ rfl _ dd
    · refine step_read _ ?_
      simp only [execOp, e1]
      go_simp
    · have dd := F.got 11 _ 14 rfl (ready_dep hr 11 (by kernel_rfl)) rfl
      obtain ⟨k0, k1, k2, k3, k4, k5, k6, k7, k8, k9, k10⟩ := xw.eleven
      refine step_read _ ?_
      simp only [execOp, eval_tmp, show aa.tmps.getD 14 undef = _ from dd]
      go_simp
    · exact step_row hmw 1 _ rfl [plB] rfl (by decide) (by decide) (by simp [Act.eval])
    · have d12 := F.got 12 _ 15 rfl (ready_dep hr 12 (by kernel_rfl)) rfl
      have d12' : aa.tmps.getD 15 undef = .bool e.pl := d12
      rw [Array.getD_eq_getD_getElem?] at d12'
      have d13 := F.got 13 _ 16 rfl (ready_dep hr 13 (by kernel_rfl)) rfl
      exact step_call 53 _ _ rfl (enters_of Tryd.func53 (by kernel_rfl) rfl) #[.bool e.pl, aa.tmps.getD 16 undef] (by simp [Act.eval, d12']) (plainIf_c m e.pl _ [plB] w' hmw d13)
    · refine step_read _ ?_
      simp only [execOp, e1]
      go_simp
    · have dd := F.got 15 _ 18 rfl (ready_dep hr 15 (by kernel_rfl)) rfl
      obtain ⟨k0, k1, k2, k3, k4, k5, k6, k7, k8, k9, k10⟩ := xw.eleven
      refine step_read _ ?_
      simp only [execOp, eval_tmp, show aa.tmps.getD 18 undef = _ from dd]
      go_simp
    · have dd := F.got 16 _ 19 rfl (ready_dep hr 16 (by kernel_rfl)) rfl
      exact step_call 83 _ _ rfl (enters_of Tryd.func83 (by kernel_rfl) rfl) #[e.t.dat.v p.ka e.t.kids.length p.kc] (by simp [eval_tmp, show aa.tmps.getD 19 undef = _ from dd]) (asked_c m e.t hS p.ka p.kc w' hmw (hK.on bw) (hV.on bw))
    · have d3 := F.got 3 _ 6 rfl (ready_dep hr 3 (by kernel_rfl)) rfl
      have d10 := F.got 10 _ 13 rfl (ready_dep hr 10 (by kernel_rfl)) rfl
      have d14 := F.got 14 _ 17 rfl (ready_dep hr 14 (by kernel_rfl)) rfl
      have d17 := F.got 17 _ 20 rfl (ready_dep hr 17 (by kernel_rfl)) rfl
      exact step_parts hmw 4 _ rfl [aa.tmps.getD 6 undef, aa.tmps.getD 13 undef, aa.tmps.getD 17 undef, aa.tmps.getD 20 undef] [(if e.nt then [exB] else []), [e.al.1, coB, joinB e.ts], (if e.pl then [plB] else []), (askP e.t)] rfl rfl (by decide) (by decide) (fun j u ps hu hp => by
        match j, hu, hp with
        | 0, hu, hp => cases hu; cases hp; exact d3
        | 1, hu, hp => cases hu; cases hp; exact d10
        | 2, hu, hp => cases hu; cases hp; exact d14
        | 3, hu, hp => cases hu; cases hp; exact d17
        | j + 4, hu, hp => simp at hu) (by simp [Act.eval])
    · have dd := F.got 18 _ 21 rfl (ready_dep hr 18 (by kernel_rfl)) rfl
      exact step_all hmw (.tmp 21) _ rfl _ dd
    · have dd := F.got 19 _ 22 rfl (ready_dep hr 19 (by kernel_rfl)) rfl
      exact step_assign (.tmp 22) (.inl rfl) dd
  case hdone =>
    intro aa w' hz hd hb hold hall
    have d9 := hall 20 _ 2 rfl rfl
    rename_i hret
    refine hret aa w' ?_
    go_wp2_with fail
    refine bodyPost_ret (results_tmp rfl _ _ _) hd ⟨_, rfl, by rw [unhide hu]; exact d9, b0.trans ((bV.trans (hb.mono bV.size)).mono b0.size)⟩

end Go.Proofs.YtfofpenajkaalaaDoor
