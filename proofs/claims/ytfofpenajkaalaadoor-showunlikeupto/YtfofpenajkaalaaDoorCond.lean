/-
  What condition of package show gives: the pieces of a condition's text, for every condition whose nodes are as they may be.
-/
import Derived.Test.YtfofpenajkaalaaDoorLiteral
namespace Go.Proofs.YtfofpenajkaalaaDoor
open Go.RowKit Go.Shelf

abbrev notB : ByteArray := ⟨#[40, 78, 79, 84, 32]⟩
abbrev opB : ByteArray := ⟨#[40]⟩
abbrev clB : ByteArray := ⟨#[41]⟩
abbrev blB : ByteArray := ⟨#[32]⟩
abbrev dotB : ByteArray := ⟨#[46]⟩
/-- The sign of an Op. -/
def sgB (q : Nat) : ByteArray := ⟨(signsL[q]?.getD []).toArray⟩
theorem sgB_eq (q : Nat) (h : q < signsL.length) : (⟨signsL[q].toArray⟩ : ByteArray) = sgB q := by simp [sgB, h]

/-- The pieces of a node, those of its kids at hand. -/
def condN (d : Dat) (l : List (List ByteArray)) : List ByteArray :=
  if d.op = 1 then litP d.k d.n d.s.1
  else if d.op = 2 then [d.al.1, dotB, d.fd.1]
  else if d.op = 12 then [[notB], l.getD 0 [], [clB]].flatten
  else [[opB], l.getD 0 [], [blB, sgB d.op.toNat, blB], l.getD 1 [], [clB]].flatten
mutual
/-- The pieces of a condition's text. -/
def condP : Tree → List ByteArray
  | .mk d ks => condN d (condL ks)
def condL : List Tree → List (List ByteArray)
  | [] => []
  | t :: ts => condP t :: condL ts
end

/-- Every node is as it may be, its number one of 64 bits. -/
inductive Snd : Tree → Prop
  | mk (d : Dat) (ks : List Tree) (hs : soundB d ks.length = true) (h0 : -9223372036854775808 ≤ d.n) (h1 : d.n ≤ 9223372036854775807) (hk : ∀ (j : Nat) t, ks[j]? = some t → Snd t) : Snd (.mk d ks)

theorem sound_op {d : Dat} {m : Nat} (h : soundB d m = true) : 1 ≤ d.op ∧ d.op ≤ 12 ∧ m = kidsN d.op ∧ (d.op = 1 → isB d.k d.n d.s.1 = true) := by
  simp only [soundB, Bool.and_eq_true, decide_eq_true_eq] at h
  obtain ⟨⟨⟨h1, h2⟩, h3⟩, h4⟩ := h
  refine ⟨h1, h2, h3, fun e => ?_⟩
  rw [if_pos e, Bool.and_eq_true] at h4
  exact h4.2
theorem isB_size {k n : Int} {s : ByteArray} (h : isB k n s = true) (hk : k = 2) : s.size ≤ 16 := by
  subst hk
  simp only [isB, isTextB] at h
  simp at h
  exact h.2.1

set_option maxRecDepth 100000 in
set_option maxHeartbeats 8000000 in
theorem condition_c (m : Nat) (t : Tree) (hS : Snd t) : ∀ (a : Option Addr) (cap : Nat) (w : World), m ≤ w.heap.size → Lies w.heap.size w a t.kids → Vars w →
    Calls Tryd.prog 25 #[t.dat.v a t.kids.length cap] w fun e w' => ∃ u, e = .returned u ∧ Pcs m w' u (condP t) ∧ Below w.heap.size w w' := by
  induction hS with
  | mk d ks hs hn0 hn1 hk ih =>
  intro a cap w hm hL hV
  have hmx : Tryd.prog.follows .mixedOrders = true := by kernel_rfl
  obtain ⟨ho1, ho12, hkn, hlit⟩ := sound_op hs
  obtain ⟨W0, hW0⟩ : ∃ W0, W0 = w.alloc (.cells (d.cs a ks.length cap) 26) := ⟨_, rfl⟩
  have b0 : Below w.heap.size w W0 := by rw [hW0]; exact (Below.refl _ _).alloc (Nat.le_refl _) _
  have x0 : Box W0 w.heap.size 26 (d.cs a ks.length cap) := by rw [hW0]; exact Box.new _ _ _
  obtain ⟨c0, c1, c2, c3, c4, c5, c6⟩ := x0.seven
  obtain ⟨V, hVd⟩ : ∃ V, V = ({ heap := W0.heap, tape := W0.tape, drawn := W0.drawn + 1, os := W0.os, output := W0.output } : World) := ⟨_, rfl⟩
  have bV : Below W0.heap.size W0 V := by rw [hVd]; exact (Below.refl _ _).drew
  have xV := x0.on bV x0.lt
  have hu := hide (show condP (.mk d ks) = condN d (condL ks) by rw [condP])
  by_cases q1 : d.op = 1
  · have hp := hide (literal_c m d.k d.n d.s.1 hn0 hn1 (fun e => Nat.le_trans (isB_size (hlit q1) e) (by decide)) W0 (Nat.le_trans hm b0.size) (hV.on b0))
    have hu2 := hide (show condP (.mk d ks) = litP d.k d.n d.s.1 by rw [unhide hu, condN, if_pos q1])
    have e1 : (d.op == 1) = true := by simp [q1]
    replace q1 := hide q1
    clear hk ih hlit hkn hs
    go_enter Tryd.func25, Tryd.ntmps25
    go_upto_region 1 with fail
    rw [show Obj.cells #[Value.int .i64 d.op, .int .i64 d.k, .int .i64 d.n, .string d.s.1, .string d.al.1, .string d.fd.1, .slice a ks.length cap] 26 = Obj.cells (d.cs a ks.length cap) 26 from rfl, ← hW0]
    clear hW0
    go_wp2_with fail
    refine (unhide hp).mono ?_
    rintro e w1 ⟨u, rfl, hp1, hb1⟩
    go_wp2_with fail
    go_ret
    exact ⟨_, rfl, by rw [unhide hu2]; exact hp1, b0.trans (hb1.mono b0.size)⟩
  have e1 : (d.op == 1) = false := by simp [q1]
  by_cases q2 : d.op = 2
  · have hu2 := hide (show condP (.mk d ks) = [d.al.1, dotB, d.fd.1] by rw [unhide hu, condN, if_neg q1, if_pos q2])
    have e2 : (d.op == 2) = true := by simp [q2]
    obtain ⟨W1, hW1⟩ : ∃ W1, W1 = W0.alloc (.cells #[.string d.al.1, .string dotB, .string d.fd.1] 9) := ⟨_, rfl⟩
    have b1 : Below W0.heap.size W0 W1 := by rw [hW1]; exact (Below.refl _ _).alloc (Nat.le_refl _) _
    have hp := hide (plain_c m (.slice (some ⟨W0.heap.size, 0, none⟩) 3 3) [d.al.1, dotB, d.fd.1] W1 (Nat.le_trans (Nat.le_trans hm b0.size) b1.size) ⟨_, 3, rfl, by simp, fun j u hu => ⟨W0.heap.size, 0, rfl, Nat.le_trans hm b0.size, by rw [hW1]; simp, by
      have := (Box.new W0 9 #[.string d.al.1, .string dotB, .string d.fd.1]).at j (v := u) (by simpa using hu)
      rw [hW1]; simpa using this⟩⟩)
    clear q1 q2
    clear hk ih hlit hkn hs
    go_enter Tryd.func25, Tryd.ntmps25
    go_upto_region 1 with fail
    rw [show Obj.cells #[Value.int .i64 d.op, .int .i64 d.k, .int .i64 d.n, .string d.s.1, .string d.al.1, .string d.fd.1, .slice a ks.length cap] 26 = Obj.cells (d.cs a ks.length cap) 26 from rfl, ← hW0]
    clear hW0
    go_wp2_with fail
    rw [← hW1]
    refine (unhide hp).mono ?_
    rintro e w1 ⟨u, rfl, hp1, hb1⟩
    go_wp2_with fail
    go_ret
    exact ⟨_, rfl, by rw [unhide hu2]; exact hp1, b0.trans ((b1.trans (hb1.mono b1.size)).mono b0.size)⟩
  have e2 : (d.op == 2) = false := by simp [q2]
  by_cases q12 : d.op = 12
  · have e12 : (d.op == 12) = true := by simp [q12]
    obtain ⟨t0, rfl⟩ : ∃ t0, ks = [t0] := by
      rw [kidsN, if_pos q12] at hkn
      match ks, hkn with
      | [t0], _ => exact ⟨t0, rfl⟩
    have ih0 := ih 0 t0 rfl
    replace hu := hide (show condP (.mk d [t0]) = [[notB], condP t0, [clB]].flatten by rw [unhide hu, condN, if_neg q1, if_neg q2, if_pos q12]; simp [condL])
    clear hk ih hlit hkn hs q1 q2 q12
    cases hL with
    | row b off _ f hl hbw hc hkl =>
    simp only [List.length_cons, List.length_nil, Nat.zero_add] at hW0 xV
    have l0 := hkl 0 t0 rfl
    have c00 := hc 0 t0 rfl 0 (.int .i64 t0.dat.op) rfl
    have c01 := hc 0 t0 rfl 1 (.int .i64 t0.dat.k) rfl
    have c02 := hc 0 t0 rfl 2 (.int .i64 t0.dat.n) rfl
    have c03 := hc 0 t0 rfl 3 (.string t0.dat.s.1) rfl
    have c04 := hc 0 t0 rfl 4 (.string t0.dat.al.1) rfl
    have c05 := hc 0 t0 rfl 5 (.string t0.dat.fd.1) rfl
    have c06 := hc 0 t0 rfl 6 (.slice (f 0).1 t0.kids.length (f 0).2) rfl
    simp only [Nat.zero_mul, Nat.add_zero] at c00 c01 c02 c03 c04 c05 c06
    clear hc hkl
    go_enter Tryd.func25, Tryd.ntmps25
    go_upto_region 1 with fail
    rw [show Obj.cells #[Value.int .i64 d.op, .int .i64 d.k, .int .i64 d.n, .string d.s.1, .string d.al.1, .string d.fd.1, .slice (some ⟨b, off, none⟩) 1 cap] 26 = Obj.cells (d.cs (some ⟨b, off, none⟩) 1 cap) 26 from rfl, ← hW0]
    clear hW0
    go_upto_region 7 with fail
    refine wp_region_any hmx ?_
    rw [← hVd]
    clear hVd
    refine wpAny_facts (fun x y => Below x.heap.size x y) (fun x => Below.refl _ _) (fun h k => h.trans (k.mono h.size)) (fun i v w' => (([.row [notB], .pcs [notB], .is (.pointer (some ⟨w.heap.size, 6, none⟩)), .is (.slice (some ⟨b, off, none⟩) 1 cap), .is (.pointer (some ⟨b, off, none⟩)), .is (t0.dat.v (f 0).1 t0.kids.length (f 0).2), .pcs (condP t0), .row [clB], .pcs [clB], .parts [[notB], (condP t0), [clB]], .pcs ([[notB], (condP t0), [clB]].flatten), .pcs ([[notB], (condP t0), [clB]].flatten)] : List Fa).getD i .any).ok m v w') (fun i v w' w'' h hb => Fa.on m _ v w' w'' h hb) _ V (by kernel_rfl) (by kernel_rfl) ?hstep ?hdone
    case hstep =>
      rintro listed aa w' i oi F hr ho
      have bw : Below w.heap.size w w' := b0.trans ((bV.trans (F.bel.mono bV.size)).mono b0.size)
      have hmw : m ≤ w'.heap.size := Nat.le_trans hm bw.size
      have xw := xV.on F.bel xV.lt
      have e1 : aa.eval (.tmp 1) = .pointer (some ⟨w.heap.size, 0, none⟩) := (F.old 1 (noDst_spec (by kernel_rfl))).trans rfl
      have hi := (Array.getElem?_eq_some_iff.1 ho).1
      obtain rfl | rfl | rfl | rfl | rfl | rfl | rfl | rfl | rfl | rfl | rfl | rfl : i = 0 ∨ i = 1 ∨ i = 2 ∨ i = 3 ∨ i = 4 ∨ i = 5 ∨ i = 6 ∨ i = 7 ∨ i = 8 ∨ i = 9 ∨ i = 10 ∨ i = 11 := by simp at hi; omega
      all_goals
        simp only [List.getElem?_toArray, List.getElem?_cons_succ, List.getElem?_cons_zero, Option.some.injEq] at ho
        subst ho
      · exact step_row hmw 1 _ rfl [notB] rfl (by decide) (by decide) (by simp [Act.eval])
      · have dd := F.got 0 _ 20 rfl (ready_dep hr 0 (by kernel_rfl)) rfl
        exact step_plain hmw (.tmp 20) _ rfl _ dd
      · refine step_read _ ?_
        simp only [execOp, e1]
        go_simp
      · have dd := F.got 2 _ 22 rfl (ready_dep hr 2 (by kernel_rfl)) rfl
        obtain ⟨k0, k1, k2, k3, k4, k5, k6⟩ := xw.seven
        refine step_read _ ?_
        simp only [execOp, eval_tmp, show aa.tmps.getD 22 undef = _ from dd]
        go_simp
      · have dd := F.got 3 _ 23 rfl (ready_dep hr 3 (by kernel_rfl)) rfl
        refine step_read _ ?_
        simp only [execOp, eval_tmp, show aa.tmps.getD 23 undef = _ from dd]
        go_simp
      · have dd := F.got 4 _ 24 rfl (ready_dep hr 4 (by kernel_rfl)) rfl
        have k0 := (bw.cell (p := ⟨b, off, none⟩) hbw).trans c00
        have k1 := (bw.cell (p := ⟨b, off + 1, none⟩) hbw).trans c01
        have k2 := (bw.cell (p := ⟨b, off + 2, none⟩) hbw).trans c02
        have k3 := (bw.cell (p := ⟨b, off + 3, none⟩) hbw).trans c03
        have k4 := (bw.cell (p := ⟨b, off + 4, none⟩) hbw).trans c04
        have k5 := (bw.cell (p := ⟨b, off + 5, none⟩) hbw).trans c05
        have k6 := (bw.cell (p := ⟨b, off + 6, none⟩) hbw).trans c06
        refine step_read _ ?_
        simp only [execOp, eval_tmp, show aa.tmps.getD 24 undef = _ from dd]
        go_simp
      · have dd := F.got 5 _ 25 rfl (ready_dep hr 5 (by kernel_rfl)) rfl
        exact step_call 25 _ _ rfl (enters_of Tryd.func25 (by kernel_rfl) rfl) #[t0.dat.v (f 0).1 t0.kids.length (f 0).2] (by simp [eval_tmp, show aa.tmps.getD 25 undef = _ from dd]) (ih0 (f 0).1 (f 0).2 w' hmw (l0.on bw) (hV.on bw))
      · exact step_row hmw 1 _ rfl [clB] rfl (by decide) (by decide) (by simp [Act.eval])
      · have dd := F.got 7 _ 27 rfl (ready_dep hr 7 (by kernel_rfl)) rfl
        exact step_plain hmw (.tmp 27) _ rfl _ dd
      · have d1 := F.got 1 _ 21 rfl (ready_dep hr 1 (by kernel_rfl)) rfl
        have d6 := F.got 6 _ 26 rfl (ready_dep hr 6 (by kernel_rfl)) rfl
        have d8 := F.got 8 _ 28 rfl (ready_dep hr 8 (by kernel_rfl)) rfl
        exact step_parts hmw 3 _ rfl [aa.tmps.getD 21 undef, aa.tmps.getD 26 undef, aa.tmps.getD 28 undef] [[notB], (condP t0), [clB]] rfl rfl (by decide) (by decide) (fun j u ps hu hp => by
          match j, hu, hp with
          | 0, hu, hp => cases hu; cases hp; exact d1
          | 1, hu, hp => cases hu; cases hp; exact d6
          | 2, hu, hp => cases hu; cases hp; exact d8
          | j + 3, hu, hp => simp at hu) (by simp [Act.eval])
      · have dd := F.got 9 _ 29 rfl (ready_dep hr 9 (by kernel_rfl)) rfl
        exact step_all hmw (.tmp 29) _ rfl _ dd
      · have dd := F.got 10 _ 30 rfl (ready_dep hr 10 (by kernel_rfl)) rfl
        exact step_assign (.tmp 30) (.inl rfl) dd
    case hdone =>
      intro aa w' hz hd hb hold hall
      have d9 := hall 11 _ 2 rfl rfl
      rename_i hret
      refine hret aa w' ?_
      go_wp2_with fail
      refine bodyPost_ret (results_tmp rfl _ _ _) hd ⟨_, rfl, by rw [unhide hu]; exact d9, b0.trans ((bV.trans (hb.mono bV.size)).mono b0.size)⟩

  have e12 : (d.op == 12) = false := by simp [q12]
  obtain ⟨t0, t1, rfl⟩ : ∃ t0 t1, ks = [t0, t1] := by
    rw [kidsN, if_neg q12, if_pos (by omega)] at hkn
    match ks, hkn with
    | [t0, t1], _ => exact ⟨t0, t1, rfl⟩
  have ih0 := ih 0 t0 rfl
  have ih1 := ih 1 t1 rfl
  obtain ⟨q, hq⟩ : ∃ q : Nat, d.op = q := ⟨d.op.toNat, by omega⟩
  have hq12 : q < 12 := by omega
  replace hu := hide (show condP (.mk d [t0, t1]) = [[opB], condP t0, [blB, sgB q, blB], condP t1, [clB]].flatten by rw [unhide hu, condN, if_neg q1, if_neg q2, if_neg q12, hq]; simp [condL])
  rw [hq] at e1 e2 e12
  obtain ⟨dop, dk, dn, ds, dal, dfd⟩ := d
  simp only at hq
  subst hq
  simp only at e1 e2 e12 hn0 hn1 ho1 ho12 c0
  clear hk ih hlit hkn hs q1 q2 q12
  cases hL with
  | row b off _ f hl hbw hc hkl =>
  simp only [List.length_cons, List.length_nil, Nat.zero_add, Nat.reduceAdd] at hW0 xV
  have l0 := hkl 0 t0 rfl
  have l1 := hkl 1 t1 rfl
  have c00 := hc 0 t0 rfl 0 (.int .i64 t0.dat.op) rfl
  have c01 := hc 0 t0 rfl 1 (.int .i64 t0.dat.k) rfl
  have c02 := hc 0 t0 rfl 2 (.int .i64 t0.dat.n) rfl
  have c03 := hc 0 t0 rfl 3 (.string t0.dat.s.1) rfl
  have c04 := hc 0 t0 rfl 4 (.string t0.dat.al.1) rfl
  have c05 := hc 0 t0 rfl 5 (.string t0.dat.fd.1) rfl
  have c06 := hc 0 t0 rfl 6 (.slice (f 0).1 t0.kids.length (f 0).2) rfl
  have c10 := hc 1 t1 rfl 0 (.int .i64 t1.dat.op) rfl
  have c11 := hc 1 t1 rfl 1 (.int .i64 t1.dat.k) rfl
  have c12 := hc 1 t1 rfl 2 (.int .i64 t1.dat.n) rfl
  have c13 := hc 1 t1 rfl 3 (.string t1.dat.s.1) rfl
  have c14 := hc 1 t1 rfl 4 (.string t1.dat.al.1) rfl
  have c15 := hc 1 t1 rfl 5 (.string t1.dat.fd.1) rfl
  have c16 := hc 1 t1 rfl 6 (.slice (f 1).1 t1.kids.length (f 1).2) rfl
  simp only [Nat.zero_mul, Nat.add_zero, Nat.one_mul, Nat.add_assoc, Nat.reduceAdd] at c00 c01 c02 c03 c04 c05 c06 c10 c11 c12 c13 c14 c15 c16
  clear hc hkl
  go_enter Tryd.func25, Tryd.ntmps25
  go_upto_region 1 with fail
  rw [show Obj.cells #[Value.int .i64 (q : Int), .int .i64 dk, .int .i64 dn, .string ds.1, .string dal.1, .string dfd.1, .slice (some ⟨b, off, none⟩) 2 cap] 26 = Obj.cells (Dat.cs ⟨(q : Int), dk, dn, ds, dal, dfd⟩ (some ⟨b, off, none⟩) 2 cap) 26 from rfl, ← hW0]
  clear hW0
  go_upto_region 8 with fail
  refine wp_region_any hmx ?_
  rw [← hVd]
  clear hVd
  refine wpAny_facts (fun x y => Below x.heap.size x y) (fun x => Below.refl _ _) (fun h k => h.trans (k.mono h.size)) (fun i v w' => (([.row [opB], .pcs [opB], .is (.pointer (some ⟨w.heap.size, 6, none⟩)), .is (.slice (some ⟨b, off, none⟩) 2 cap), .is (.pointer (some ⟨b, off, none⟩)), .is (t0.dat.v (f 0).1 t0.kids.length (f 0).2), .pcs (condP t0), .is (.pointer (some ⟨w.heap.size, 0, none⟩)), .is (.int .i64 q), .is (.pointer (some ⟨0, q, none⟩)), .is (.string (sgB q)), .row [blB, sgB q, blB], .pcs [blB, sgB q, blB], .is (.pointer (some ⟨w.heap.size, 6, none⟩)), .is (.slice (some ⟨b, off, none⟩) 2 cap), .is (.pointer (some ⟨b, off + 7, none⟩)), .is (t1.dat.v (f 1).1 t1.kids.length (f 1).2), .pcs (condP t1), .row [clB], .pcs [clB], .parts [[opB], (condP t0), [blB, sgB q, blB], (condP t1), [clB]], .pcs ([[opB], (condP t0), [blB, sgB q, blB], (condP t1), [clB]].flatten), .pcs ([[opB], (condP t0), [blB, sgB q, blB], (condP t1), [clB]].flatten)] : List Fa).getD i .any).ok m v w') (fun i v w' w'' h hb => Fa.on m _ v w' w'' h hb) _ V (by kernel_rfl) (by kernel_rfl) ?hstep ?hdone
  case hstep =>
    rintro listed aa w' i oi F hr ho
    have bw : Below w.heap.size w w' := b0.trans ((bV.trans (F.bel.mono bV.size)).mono b0.size)
    have hmw : m ≤ w'.heap.size := Nat.le_trans hm bw.size
    have xw := xV.on F.bel xV.lt
    have e1 : aa.eval (.tmp 1) = .pointer (some ⟨w.heap.size, 0, none⟩) := (F.old 1 (noDst_spec (by kernel_rfl))).trans rfl
    have hi := (Array.getElem?_eq_some_iff.1 ho).1
    obtain rfl | rfl | rfl | rfl | rfl | rfl | rfl | rfl | rfl | rfl | rfl | rfl | rfl | rfl | rfl | rfl | rfl | rfl | rfl | rfl | rfl | rfl | rfl : i = 0 ∨ i = 1 ∨ i = 2 ∨ i = 3 ∨ i = 4 ∨ i = 5 ∨ i = 6 ∨ i = 7 ∨ i = 8 ∨ i = 9 ∨ i = 10 ∨ i = 11 ∨ i = 12 ∨ i = 13 ∨ i = 14 ∨ i = 15 ∨ i = 16 ∨ i = 17 ∨ i = 18 ∨ i = 19 ∨ i = 20 ∨ i = 21 ∨ i = 22 := by simp at hi; omega
    all_goals
      simp only [List.getElem?_toArray, List.getElem?_cons_succ, List.getElem?_cons_zero, Option.some.injEq] at ho
      subst ho
    · exact step_row hmw 1 _ rfl [opB] rfl (by decide) (by decide) (by simp [Act.eval])
    · have dd := F.got 0 _ 31 rfl (ready_dep hr 0 (by kernel_rfl)) rfl
      exact step_plain hmw (.tmp 31) _ rfl _ dd
    · refine step_read _ ?_
      simp only [execOp, e1]
      go_simp
    · have dd := F.got 2 _ 33 rfl (ready_dep hr 2 (by kernel_rfl)) rfl
      obtain ⟨k0, k1, k2, k3, k4, k5, k6⟩ := xw.seven
      refine step_read _ ?_
      simp only [execOp, eval_tmp, show aa.tmps.getD 33 undef = _ from dd]
      go_simp
    · have dd := F.got 3 _ 34 rfl (ready_dep hr 3 (by kernel_rfl)) rfl
      refine step_read _ ?_
      simp only [execOp, eval_tmp, show aa.tmps.getD 34 undef = _ from dd]
      go_simp
    · have dd := F.got 4 _ 35 rfl (ready_dep hr 4 (by kernel_rfl)) rfl
      have k0 := (bw.cell (p := ⟨b, off, none⟩) hbw).trans c00
      have k1 := (bw.cell (p := ⟨b, off + 1, none⟩) hbw).trans c01
      have k2 := (bw.cell (p := ⟨b, off + 2, none⟩) hbw).trans c02
      have k3 := (bw.cell (p := ⟨b, off + 3, none⟩) hbw).trans c03
      have k4 := (bw.cell (p := ⟨b, off + 4, none⟩) hbw).trans c04
      have k5 := (bw.cell (p := ⟨b, off + 5, none⟩) hbw).trans c05
      have k6 := (bw.cell (p := ⟨b, off + 6, none⟩) hbw).trans c06
      refine step_read _ ?_
      simp only [execOp, eval_tmp, show aa.tmps.getD 35 undef = _ from dd]
      go_simp
    · have dd := F.got 5 _ 36 rfl (ready_dep hr 5 (by kernel_rfl)) rfl
      exact step_call 25 _ _ rfl (enters_of Tryd.func25 (by kernel_rfl) rfl) #[t0.dat.v (f 0).1 t0.kids.length (f 0).2] (by simp [eval_tmp, show aa.tmps.getD 36 undef = _ from dd]) (ih0 (f 0).1 (f 0).2 w' hmw (l0.on bw) (hV.on bw))
    · refine step_read _ ?_
      simp only [execOp, e1]
      go_simp
    · have dd := F.got 7 _ 38 rfl (ready_dep hr 7 (by kernel_rfl)) rfl
      obtain ⟨k0, k1, k2, k3, k4, k5, k6⟩ := xw.seven
      refine step_read _ ?_
      simp only [execOp, eval_tmp, show aa.tmps.getD 38 undef = _ from dd]
      go_simp
    · have dd := F.got 8 _ 39 rfl (ready_dep hr 8 (by kernel_rfl)) rfl
      refine step_read _ ?_
      simp only [execOp, eval_tmp, show aa.tmps.getD 39 undef = _ from dd]
      go_simp
      intro h12; exact absurd h12 (by omega)
    · have dd := F.got 9 _ 40 rfl (ready_dep hr 9 (by kernel_rfl)) rfl
      have ks := (hV.on bw).sg q (by rw [show signsL.length = 12 from rfl]; omega)
      rw [show (⟨(signsL[q]'(by rw [show signsL.length = 12 from rfl]; omega)).toArray⟩ : ByteArray) = sgB q from sgB_eq q _] at ks
      refine step_read _ ?_
      simp only [execOp, eval_tmp, show aa.tmps.getD 40 undef = _ from dd]
      go_simp
    · have d10 := F.got 10 _ 41 rfl (ready_dep hr 10 (by kernel_rfl)) rfl
      have d10' : aa.tmps.getD 41 undef = .string (sgB q) := d10
      rw [Array.getD_eq_getD_getElem?] at d10'
      exact step_row hmw 3 _ rfl [blB, sgB q, blB] rfl (by decide) (by decide) (by simp [Act.eval, d10'])
    · have dd := F.got 11 _ 42 rfl (ready_dep hr 11 (by kernel_rfl)) rfl
      exact step_plain hmw (.tmp 42) _ rfl _ dd
    · refine step_read _ ?_
      simp only [execOp, e1]
      go_simp
    · have dd := F.got 13 _ 44 rfl (ready_dep hr 13 (by kernel_rfl)) rfl
      obtain ⟨k0, k1, k2, k3, k4, k5, k6⟩ := xw.seven
      refine step_read _ ?_
      simp only [execOp, eval_tmp, show aa.tmps.getD 44 undef = _ from dd]
      go_simp
    · have dd := F.got 14 _ 45 rfl (ready_dep hr 14 (by kernel_rfl)) rfl
      refine step_read _ ?_
      simp only [execOp, eval_tmp, show aa.tmps.getD 45 undef = _ from dd]
      go_simp
    · have dd := F.got 15 _ 46 rfl (ready_dep hr 15 (by kernel_rfl)) rfl
      have k0 := (bw.cell (p := ⟨b, off + 7, none⟩) hbw).trans c10
      have k1 := (bw.cell (p := ⟨b, off + 8, none⟩) hbw).trans c11
      have k2 := (bw.cell (p := ⟨b, off + 9, none⟩) hbw).trans c12
      have k3 := (bw.cell (p := ⟨b, off + 10, none⟩) hbw).trans c13
      have k4 := (bw.cell (p := ⟨b, off + 11, none⟩) hbw).trans c14
      have k5 := (bw.cell (p := ⟨b, off + 12, none⟩) hbw).trans c15
      have k6 := (bw.cell (p := ⟨b, off + 13, none⟩) hbw).trans c16
      refine step_read _ ?_
      simp only [execOp, eval_tmp, show aa.tmps.getD 46 undef = _ from dd]
      go_simp
    · have dd := F.got 16 _ 47 rfl (ready_dep hr 16 (by kernel_rfl)) rfl
      exact step_call 25 _ _ rfl (enters_of Tryd.func25 (by kernel_rfl) rfl) #[t1.dat.v (f 1).1 t1.kids.length (f 1).2] (by simp [eval_tmp, show aa.tmps.getD 47 undef = _ from dd]) (ih1 (f 1).1 (f 1).2 w' hmw (l1.on bw) (hV.on bw))
    · exact step_row hmw 1 _ rfl [clB] rfl (by decide) (by decide) (by simp [Act.eval])
    · have dd := F.got 18 _ 49 rfl (ready_dep hr 18 (by kernel_rfl)) rfl
      exact step_plain hmw (.tmp 49) _ rfl _ dd
    · have d1 := F.got 1 _ 32 rfl (ready_dep hr 1 (by kernel_rfl)) rfl
      have d6 := F.got 6 _ 37 rfl (ready_dep hr 6 (by kernel_rfl)) rfl
      have d12 := F.got 12 _ 43 rfl (ready_dep hr 12 (by kernel_rfl)) rfl
      have d17 := F.got 17 _ 48 rfl (ready_dep hr 17 (by kernel_rfl)) rfl
      have d19 := F.got 19 _ 50 rfl (ready_dep hr 19 (by kernel_rfl)) rfl
      exact step_parts hmw 5 _ rfl [aa.tmps.getD 32 undef, aa.tmps.getD 37 undef, aa.tmps.getD 43 undef, aa.tmps.getD 48 undef, aa.tmps.getD 50 undef] [[opB], (condP t0), [blB, sgB q, blB], (condP t1), [clB]] rfl rfl (by decide) (by decide) (fun j u ps hu hp => by
        match j, hu, hp with
        | 0, hu, hp => cases hu; cases hp; exact d1
        | 1, hu, hp => cases hu; cases hp; exact d6
        | 2, hu, hp => cases hu; cases hp; exact d12
        | 3, hu, hp => cases hu; cases hp; exact d17
        | 4, hu, hp => cases hu; cases hp; exact d19
        | j + 5, hu, hp => simp at hu) (by simp [Act.eval])
    · have dd := F.got 20 _ 51 rfl (ready_dep hr 20 (by kernel_rfl)) rfl
      exact step_all hmw (.tmp 51) _ rfl _ dd
    · have dd := F.got 21 _ 52 rfl (ready_dep hr 21 (by kernel_rfl)) rfl
      exact step_assign (.tmp 52) (.inl rfl) dd
  case hdone =>
    intro aa w' hz hd hb hold hall
    have d9 := hall 22 _ 2 rfl rfl
    rename_i hret
    refine hret aa w' ?_
    go_wp2_with fail
    refine bodyPost_ret (results_tmp rfl _ _ _) hd ⟨_, rfl, by rw [unhide hu]; exact d9, b0.trans ((bV.trans (hb.mono bV.size)).mono b0.size)⟩

end Go.Proofs.YtfofpenajkaalaaDoor
