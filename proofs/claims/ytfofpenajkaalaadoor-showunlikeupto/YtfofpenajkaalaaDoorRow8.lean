/-
  What row of package show gives: the pieces of a pattern's elements.
-/
import Derived.Test.YtfofpenajkaalaaDoorFactsU
namespace Go.Proofs.YtfofpenajkaalaaDoor
open Go.RowKit Go.Shelf

abbrev csB : ByteArray := ⟨#[44, 32]⟩
/-- The parts of a row of elements: what is ahead of each, and its own. -/
def rowS (es : List Em) : List (List ByteArray) := (es.zipIdx).flatMap fun x => [if decide ((0 : Int) < x.2) then [csB] else [], elemP x.1]
theorem rowS_snoc (es : List Em) (e : Em) : rowS (es ++ [e]) = rowS es ++ [if decide ((0 : Int) < es.length) then [csB] else [], elemP e] := by
  simp [rowS, List.zipIdx_append]
theorem rowS_len (es : List Em) : (rowS es).length = 2 * es.length := by
  have h : ∀ (l : List Em) (k : Nat), ((l.zipIdx k).flatMap fun x => [if decide ((0 : Int) < x.2) then [csB] else [], elemP x.1]).length = 2 * l.length := by
    intro l
    induction l with
    | nil => intro k; rfl
    | cons a l ih => intro k; rw [List.zipIdx_cons, List.flatMap_cons, List.length_append, ih]; simp; omega
  exact h es 0

/-- Elements that lie, their texts' rows with room enough. -/
def EmsK (n₀ : Nat) (W : World) (a : Option Addr) (es : List Em) : Prop :=
  es = [] ∨ ∃ (b off : Nat) (f : Nat → Pl), a = some ⟨b, off, none⟩ ∧ b < n₀ ∧ ∀ (j : Nat) e, es[j]? = some e → (∀ (i : Nat) u, (e.cs (f j))[i]? = some u → W.cell? ⟨b, off + j * 11 + i, none⟩ = some u) ∧ EmIn n₀ W e (f j) ∧ e.ts.length ≤ (f j).tc
theorem EmsK.on {A B : World} {a : Option Addr} {es : List Em} (k : EmsK A.heap.size A a es) (h : Below A.heap.size A B) : EmsK B.heap.size B a es := by
  rcases k with h0 | ⟨b, off, f, e, hb, hc⟩
  · exact .inl h0
  · exact .inr ⟨b, off, f, e, Nat.lt_of_lt_of_le hb h.size, fun j x hx => ⟨fun i u hu => (h.cell (p := ⟨b, _, none⟩) hb).trans ((hc j x hx).1 i u hu), (hc j x hx).2.1.on h, (hc j x hx).2.2⟩⟩
theorem EmsK.at {n₀ : Nat} {W : World} {a : Option Addr} {es : List Em} (k : EmsK n₀ W a es) {j : Nat} {e : Em} (he : es[j]? = some e) :
    ∃ b off p, a = some ⟨b, off, none⟩ ∧ b < n₀ ∧ (∀ (i : Nat) u, (e.cs p)[i]? = some u → W.cell? ⟨b, off + j * 11 + i, none⟩ = some u) ∧ EmIn n₀ W e p ∧ e.ts.length ≤ p.tc := by
  rcases k with h0 | ⟨b, off, f, ea, hb, hc⟩
  · rw [h0] at he; simp at he
  · exact ⟨b, off, f j, ea, hb, hc j e he⟩
theorem owns_low {W : World} {base : Nat} {e : TypeId} {size : Nat} {v : Value} {n : Nat} {xs : List Value} (h : W.ownsRow base e size v n xs) {g : Nat} (hg : v.ownBlock = some g) : base ≤ g ∧ g < W.heap.size := by
  rcases h.2 with ⟨rfl, _⟩ | ⟨g', cap, cur, rfl, hb, hc, _⟩
  · cases hg
  · cases hg; exact ⟨hb, (Array.getElem?_eq_some_iff.1 hc).1⟩
theorem owns_rowV {W : World} {base : Nat} {v : Value} {xs : List Value} (h : W.ownsRow base 46 1 v xs.length xs) (hx : xs.length ≤ 1099511627776) : RowV base W.heap.size W v xs := by
  rcases h.2 with ⟨rfl, h0⟩ | ⟨g, cap, cur, rfl, hb, hc, h1, h2, h3, h4⟩
  · have : xs = [] := List.eq_nil_of_length_eq_zero h0
    subst this
    exact RowV.nil _ _ _ _ _
  · refine ⟨_, cap, rfl, hx, fun j u hu => ⟨g, 0, rfl, hb, (Array.getElem?_eq_some_iff.1 hc).1, ?_⟩⟩
    have hj := (List.getElem?_eq_some_iff.1 hu).1
    rw [← h4, List.getElem?_take_of_lt (by omega), Array.getElem?_toList] at hu
    simp [World.cell?, hc, hu]

/-- A row of pieces that a call has made, each kept apart from the row itself. -/
def PRow (base : Nat) (W : World) (v : Value) (vs : List Value) (pss : List (List ByteArray)) : Prop :=
  W.ownsRow base 46 1 v vs.length vs ∧ vs.length = pss.length ∧ ∀ (j : Nat) u ps, vs[j]? = some u → pss[j]? = some ps → ∃ m M, base ≤ m ∧ PcsB m M W u ps ∧ ∀ g, v.ownBlock = some g → g < m ∨ M ≤ g
theorem PRow.on {base : Nat} {A B : World} {v : Value} {vs : List Value} {pss : List (List ByteArray)} (h : PRow base A v vs pss) (hb : Below A.heap.size A B) : PRow base B v vs pss :=
  ⟨owns_on hb h.1, h.2.1, fun j u ps hu hp => by
    obtain ⟨m, M, h1, h2, h3⟩ := h.2.2 j u ps hu hp
    have hM := h2.choose_spec.choose_spec.2.2.1
    exact ⟨m, M, h1, h2.sm (SmB.below (hb.mono hM)) (Nat.le_trans hM hb.size), h3⟩⟩

set_option maxRecDepth 100000 in
set_option maxHeartbeats 8000000 in
theorem row_c (m : Nat) (es : List Em) (a : Option Addr) (cap : Nat) (hG : ∀ e ∈ es, EGood e) (hn : es.length ≤ 5) (w : World) (hm : m ≤ w.heap.size) (hE : EmsK w.heap.size w a es) (hV : Vars w) :
    Calls Tryd.prog 51 #[.slice a es.length cap] w fun r w' => ∃ u, r = .returned u ∧ Pcs m w' u (rowS es).flatten ∧ Below w.heap.size w w' := by
  have hmx : Tryd.prog.follows .mixedOrders = true := by kernel_rfl
  obtain ⟨i0, hi, hz0, hz1, hz2⟩ := info_parts infoPcs
  replace hG := hide hG
  replace hE := hide hE
  go_enter Tryd.func51, Tryd.ntmps51
  go_wp2_with fail
  go_loopw [3, 8] (fun v i wr => ∃ (k : Nat) (vs : List Value) (va : Option Addr) (vc : Nat), k ≤ es.length ∧ i = .int .i64 k ∧ v = .slice va vs.length vc ∧ Hid (PRow w.heap.size wr v vs (rowS (es.take k))) ∧ Below w.heap.size w wr) (fun _ i _ => es.length - (intOf i).toNat)
  case atStart => exact ⟨0, [], none, 0, Nat.zero_le _, rfl, rfl, hide ⟨World.ownsRow_nil _ _ _ _, rfl, fun j u ps hu => by simp at hu⟩, Below.refl _ _⟩
  case round =>
    obtain ⟨k, vs, va, vc, hk, rfl, rfl, hP, hb⟩ := hrel
    by_cases hlt : k < es.length
    · obtain ⟨e, he⟩ : ∃ e, es[k]? = some e := ⟨_, List.getElem?_eq_getElem hlt⟩
      have hEr : EmsK wr.heap.size wr a es := (unhide hE).on hb
      have hVr : Vars wr := hV.on hb
      obtain ⟨b, off, p, rfl, hbb, hcs, hEe, hcp⟩ := hEr.at he
      have hGe := unhide hG e (List.mem_of_getElem? he)
      have htk := hide (show rowS (es.take (k + 1)) = rowS (es.take k) ++ [if decide ((0 : Int) < k) then [csB] else [], elemP e] by
        rw [List.take_add_one, he, Option.toList_some, rowS_snoc, List.length_take, Nat.min_eq_left hk])
      have k0 := hcs 0 (.string e.al.1) rfl
      have k1 := hcs 1 (.slice p.ta e.ts.length p.tc) rfl
      have k2 := hcs 2 (.bool e.pl) rfl
      have k3 := hcs 3 (.bool e.nt) rfl
      have k4 := hcs 4 (.int .i64 e.t.dat.op) rfl
      have k5 := hcs 5 (.int .i64 e.t.dat.k) rfl
      have k6 := hcs 6 (.int .i64 e.t.dat.n) rfl
      have k7 := hcs 7 (.string e.t.dat.s.1) rfl
      have k8 := hcs 8 (.string e.t.dat.al.1) rfl
      have k9 := hcs 9 (.string e.t.dat.fd.1) rfl
      have k10 := hcs 10 (.slice p.ka e.t.kids.length p.kc) rfl
      rw [Nat.add_zero] at k0
      obtain ⟨W1, hW1⟩ : ∃ W1, W1 = wr.alloc (.cells (e.cs p) 42) := ⟨_, rfl⟩
      have b1 : Below wr.heap.size wr W1 := by rw [hW1]; exact (Below.refl _ _).alloc (Nat.le_refl _) _
      have x1 : Box W1 wr.heap.size 42 (e.cs p) := by rw [hW1]; exact Box.new _ _ _
      obtain ⟨V, hVd⟩ : ∃ V, V = ({ heap := W1.heap, tape := W1.tape, drawn := W1.drawn + 1, os := W1.os, output := W1.output } : World) := ⟨_, rfl⟩
      have bV : Below W1.heap.size W1 V := by rw [hVd]; exact (Below.refl _ _).drew
      have hkl : (k : Int) < es.length := by omega
      replace hGe := hide hGe
      clear hcs he
      go_upto_region 5 with fail
      rw [show Obj.cells #[Value.string e.al.1, .slice p.ta e.ts.length p.tc, .bool e.pl, .bool e.nt, .int .i64 e.t.dat.op, .int .i64 e.t.dat.k, .int .i64 e.t.dat.n, .string e.t.dat.s.1, .string e.t.dat.al.1, .string e.t.dat.fd.1, .slice p.ka e.t.kids.length p.kc] 42 = Obj.cells (e.cs p) 42 from rfl, ← hW1]
      clear hW1 k0 k1 k2 k3 k4 k5 k6 k7 k8 k9 k10
      replace hEe := hEe.on b1
      replace hVr := hVr.on b1
      replace hGe := unhide hGe
      refine wp_region_any hmx ?_
      rw [← hVd]
      clear hVd
      refine wpAny_facts_until 8 (by decide) (by kernel_rfl) (fun x y => Below x.heap.size x y) (fun x => Below.refl _ _) (fun h k => h.trans (k.mono h.size)) (fun i v w' => (([.is (.slice va vs.length vc), .is (.int .i64 k), .is (.bool (decide ((0 : Int) < k))), .row [csB], .pcs (if decide ((0 : Int) < k) then [csB] else []), .is (e.v p), .pcs (elemP e), .parts [(if decide ((0 : Int) < k) then [csB] else []), (elemP e)]] : List Fa).getD i .any).ok V.heap.size v w') (fun i v w' w'' h hb => Fa.on _ _ v w' w'' h hb) _ V (by kernel_rfl) (by kernel_rfl) ?hstep ?hfin
      case hstep =>
        rintro listed aa w' i oi F hi8 hr ho
        have bw : Below W1.heap.size W1 w' := bV.trans (F.bel.mono bV.size)
        have hmw : V.heap.size ≤ w'.heap.size := F.bel.size
        have xw := x1.on bw x1.lt
        obtain rfl | rfl | rfl | rfl | rfl | rfl | rfl | rfl : i = 0 ∨ i = 1 ∨ i = 2 ∨ i = 3 ∨ i = 4 ∨ i = 5 ∨ i = 6 ∨ i = 7 := by omega
        all_goals
          simp only [List.getElem?_toArray, List.getElem?_cons_succ, List.getElem?_cons_zero, Option.some.injEq] at ho
          subst ho
        · exact step_assign (.tmp 3) (.inr rfl) (F.early hr 3 (by kernel_rfl))
        · exact step_assign (.tmp 4) (.inr rfl) (F.early hr 4 (by kernel_rfl))
        · have dd := F.got 1 _ 14 rfl (ready_dep hr 1 (by kernel_rfl)) rfl
          refine step_read _ ?_
          simp only [execOp, eval_tmp, show aa.tmps.getD 14 undef = _ from dd]
          go_simp
        · exact step_row hmw 1 _ rfl [csB] rfl (by decide) (by decide) (by simp [Act.eval])
        · have d2 := F.got 2 _ 15 rfl (ready_dep hr 2 (by kernel_rfl)) rfl
          have d3 := F.got 3 _ 16 rfl (ready_dep hr 3 (by kernel_rfl)) rfl
          have d2' : aa.tmps.getD 15 undef = .bool (decide ((0 : Int) < k)) := d2
          rw [Array.getD_eq_getD_getElem?] at d2'
          exact step_call 53 _ _ rfl (enters_of Tryd.func53 (by kernel_rfl) rfl) #[.bool (decide ((0 : Int) < k)), aa.tmps.getD 16 undef] (by simp [Act.eval, d2']) (plainIf_c V.heap.size _ _ [csB] w' hmw d3)
        · obtain ⟨k0, k1, k2, k3, k4, k5, k6, k7, k8, k9, k10⟩ := xw.eleven
          have e5 : aa.eval (.tmp 5) = .pointer (some ⟨wr.heap.size, 0, none⟩) := (F.old 5 (noDst_spec (by kernel_rfl))).trans rfl
          refine step_read _ ?_
          simp only [execOp, e5]
          go_simp
        · have dd := F.got 5 _ 18 rfl (ready_dep hr 5 (by kernel_rfl)) rfl
          exact step_call 70 _ _ rfl (enters_of Tryd.func70 (by kernel_rfl) rfl) #[e.v p] (by simp [eval_tmp, show aa.tmps.getD 18 undef = _ from dd]) (element_c V.heap.size e p hGe hcp w' hmw (hEe.on bw) (hVr.on bw))
        · have d4 := F.got 4 _ 17 rfl (ready_dep hr 4 (by kernel_rfl)) rfl
          have d6 := F.got 6 _ 19 rfl (ready_dep hr 6 (by kernel_rfl)) rfl
          exact step_parts hmw 2 _ rfl [aa.tmps.getD 17 undef, aa.tmps.getD 19 undef] [(if decide ((0 : Int) < k) then [csB] else []), (elemP e)] rfl rfl (by decide) (by decide) (fun j u ps hu hp => by
            match j, hu, hp with
            | 0, hu, hp => cases hu; cases hp; exact d4
            | 1, hu, hp => cases hu; cases hp; exact d6
            | j + 2, hu, hp => simp at hu) (by simp [Act.eval])

      case hfin =>
        intro f aa w' F
        have d0 := F.got 0 _ 13 rfl (by kernel_rfl) rfl
        have d7 := F.got 7 _ 20 rfl (by kernel_rfl) rfl
        have bw : Below wr.heap.size wr w' := b1.trans ((bV.trans (F.bel.mono bV.size)).mono b1.size)
        have hr8 : PRow w.heap.size w' (.slice va vs.length vc) vs (rowS (es.take k)) := (unhide hP).on bw
        have hsV : wr.heap.size ≤ V.heap.size := Nat.le_trans b1.size bV.size
        have hg0 : ∀ g, (Value.slice va vs.length vc).ownBlock = some g → w.heap.size ≤ g ∧ g < V.heap.size := fun g hg => by
          have := owns_low (unhide hP).1 hg
          exact ⟨this.1, Nat.lt_of_lt_of_le this.2 hsV⟩
        obtain ⟨us, q1, ⟨ua, uc, ue, -, uhc⟩, q3⟩ := d7
        obtain ⟨u0, hu0⟩ : ∃ u0, us[0]? = some u0 := ⟨_, List.getElem?_eq_getElem (by rw [q1]; simp)⟩
        obtain ⟨ub, uo, rfl, -, -, -⟩ := uhc 0 u0 hu0
        have hvl : vs.length = 2 * k := by rw [hr8.2.1, rowS_len, List.length_take, Nat.min_eq_left hk]
        have hul : us.length = 2 := q1
        have hB' : Below w.heap.size w w' := hb.trans (bw.mono hb.size)
        have haa := F.act [13, 14, 15, 16, 17, 18, 19, 20, 21, 3] (by kernel_rfl)
        have hsz : aa.tmps.size = 25 := F.tsz
        refine wpAny_alone 8 (by kernel_rfl) (fun oi ho => ?_)
        simp only [List.getElem?_toArray, List.getElem?_cons_succ, List.getElem?_cons_zero, Option.some.injEq] at ho
        subst ho
        refine step_own w' rfl (.tmp 13) (.tmp 20) 89 rfl w.heap.size 46 i0 .nilFunc 1 8 Tryd.underlying89 hi hz0 hz1 hz2 rfl (by decide) (.slice va vs.length vc) vs.length vs d0 hr8.1 ⟨ub, uo, none⟩ us.length uc us ue (by simp) (fun j u hu => by
          obtain ⟨b', o', e', -, -, hcell⟩ := uhc j u hu
          cases e'
          rw [WideShapes.add_plain]; exact hcell) (fun u hu => by
          obtain ⟨j, hj⟩ := List.getElem?_of_mem hu
          obtain ⟨ps, hps⟩ : ∃ ps, [if decide ((0 : Int) < k) then [csB] else [], elemP e][j]? = some ps := ⟨_, List.getElem?_eq_getElem (by rw [← q1]; exact (List.getElem?_eq_some_iff.1 hj).1)⟩
          obtain ⟨g, lb, rfl, -⟩ := q3 j u ps hj hps
          rfl) (by unfold maxLen; omega) (by omega) hB'.size (fun v' w2 hown hgr hat => ?_)
        refine wpAny_alone 9 (by kernel_rfl) (fun oi ho => ?_)
        simp only [List.getElem?_toArray, List.getElem?_cons_succ, List.getElem?_cons_zero, Option.some.injEq] at ho
        subst ho
        rw [if_pos (by simp [Region.wanted])]
        unfold Oper.wp execOp
        refine wpAny_over (by kernel_rfl) ?_ _
        have hvv : (aa.put (some 21) v').eval (.tmp 21) = v' := put_same aa 21 v' (by rw [hsz]; decide)
        simp only [hvv]
        have hP2 : PRow w.heap.size w2 v' (vs ++ us) (rowS (es.take (k + 1))) := by
          refine ⟨by rw [List.length_append]; exact hown, by rw [unhide htk, List.length_append, List.length_append, hr8.2.1, q1], fun j u ps hu hp => ?_⟩
          rw [unhide htk] at hp
          by_cases hj : j < vs.length
          · rw [List.getElem?_append_left hj] at hu
            rw [List.getElem?_append_left (by rw [← hr8.2.1]; exact hj)] at hp
            obtain ⟨m1, M1, h1, h2, h3⟩ := hr8.2.2 j u ps hu hp
            have hM := h2.choose_spec.choose_spec.2.2.1
            refine ⟨m1, M1, h1, h2.sm (fun q o hq1 hq2 ho hc => (hgr.block q (by omega) (fun e => by have := h3 q e.symm; omega)).trans ho) (Nat.le_trans hM hgr.size), fun g hg => ?_⟩
            rcases hat with e | e
            · exact h3 g (e ▸ hg)
            · rw [e] at hg; cases hg; exact .inr hM
          · rw [List.getElem?_append_right (by omega)] at hu
            rw [List.getElem?_append_right (by rw [← hr8.2.1]; omega), ← hr8.2.1] at hp
            have h2 := q3 _ u ps hu hp
            refine ⟨V.heap.size, w'.heap.size, Nat.le_trans hb.size hsV, PcsB.sm h2 (fun q o hq1 hq2 ho hc => (hgr.block q (by omega) (fun e => by have := (hg0 q e.symm).2; omega)).trans ho) hgr.size, fun g hg => ?_⟩
            rcases hat with e | e
            · exact .inl (hg0 g (e ▸ hg)).2
            · rw [e] at hg; cases hg; exact .inr (Nat.le_refl _)
        have hB2 : Below w.heap.size w w2 := hB'.grown hgr hB'.size (fun g hg => (hg0 g hg).1)
        obtain ⟨va', vc', rfl⟩ := owns_form hP2.1
        replace hP2 := hide hP2
        clear hown hgr hat hvv q3 uhc ue hu0 hr8 d0
        rw [haa]
        simp only [putsL, List.foldl_cons, List.foldl_nil, Act.put, List.setIfInBounds_toArray, List.set_cons_zero, List.set_cons_succ]
        rename_i hret
        refine hret _ _ ?_
        go_wp2_with fail
        go_roundw
        case rel => exact ⟨k + 1, vs ++ us, va', vc', by omega, by go_num, rfl, hP2, hB2⟩
        case measure => simp [intOf]; omega
    · have hke : es.take k = es := List.take_of_length_le (by omega)
      rw [hke] at hP
      have hPr := unhide hP
      have hvl : vs.length ≤ 10 := by rw [hPr.2.1, rowS_len]; omega
      have hc := hide ((all_c w.heap.size (.slice va vs.length vc) vs (rowS es) hPr.2.1 wr hb.size (fun j u ps hu hp => by
        obtain ⟨m1, M1, h1, h2, -⟩ := hPr.2.2 j u ps hu hp
        exact h2.wide h1 h2.choose_spec.choose_spec.2.2.1 (Nat.le_refl _)) (owns_rowV hPr.1 (by omega))))
      clear hPr hP hke
      have hkl : ¬ (k : Int) < es.length := by omega
      go_wp2_with fail
      refine (unhide hc).mono ?_
      rintro r w2 ⟨u, rfl, hp2, hb2⟩
      go_wp2_with fail
      go_ret
      exact ⟨_, rfl, hp2.less hm, hb.trans (hb2.mono hb.size)⟩

end Go.Proofs.YtfofpenajkaalaaDoor
