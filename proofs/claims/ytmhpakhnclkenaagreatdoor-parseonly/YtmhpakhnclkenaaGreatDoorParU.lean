/-
  What the reader's window and pattern do.
-/
import Derived.Test.YtmhpakhnclkenaaGreatDoorParT
namespace Go.Proofs.YtmhpakhnclkenaaGreatDoor
open Go.RowKit Go.Shelf

attribute [local go_sem] Oper.semAt_some

set_option maxRecDepth 100000 in
set_option maxHeartbeats 2000000 in
theorem window9_c (n B : Nat) (s : Ps) (W : World) (h : RS n B W s) :
    Calls Tryz.prog 53 #[.pointer (some ⟨B, 0, none⟩)] W fun r W' => r = .returned (.int .i64 (takeP s 2).1.n) ∧ RS n B W' (takeP s 2).2 ∧ Kb B W W' := by
  have cT := take_c n B s 2 (by decide) W h
  generalize takeP s 2 = p at cT ⊢
  obtain ⟨w, s1⟩ := p
  replace cT := hide cT
  go_enter Tryz.func53, Tryz.ntmps53
  go_wp2_with fail
  refine (unhide cT).mono ?_
  rintro r W1 ⟨hr, h1, k1⟩
  obtain rfl : r = .returned (.agg #[.int .i64 w.k, .string w.t.1, .int .i64 w.n, .int .i64 w.p]) := hr
  clear cT
  have hf := field_n w
  go_wp2_with fail
  go_ret
  exact ⟨rfl, h1, k1⟩

/-- How a pattern ends. -/
def patE (es : List Em) (n : Int) (b : Bool) (sB : Ps) : Pt × Ps :=
  (⟨es, n, (if b then nameP sB else (t0, sB)).1, (eatP (if b then nameP sB else (t0, sB)).2 anB).1⟩, (eatP (if b then nameP sB else (t0, sB)).2 anB).2)

set_option maxRecDepth 100000 in
set_option maxHeartbeats 8000000 in
theorem pattern9_c (n B : Nat) (s : Ps) (W : World) (h : RS n B W s) (hP : PsV W) (hB3 : 3 < B) :
    Calls Tryz.prog 23 #[.pointer (some ⟨B, 0, none⟩)] W fun r W' => ∃ v, r = .returned v ∧ PatAt W.heap.size W' v (patternQ s).1 ∧ RS n B W' (patternQ s).2 ∧ Kb B W W' := by
  have hBl := h.lt
  have hnW := h.1
  obtain ⟨i0, hi0, hz0, hz1, hz2⟩ := info_parts infoM
  have hmx : Tryz.prog.follows .mixedOrders = true := by kernel_rfl
  obtain ⟨s3, e3⟩ : ∃ s3, mustP s [seB, oB] = s3 := ⟨_, rfl⟩
  obtain ⟨hm1, hst, htl, hlast⟩ := parts_run elemQ cmB elemQ_len s3
  have htot := (partsF_len elemQ cmB elemQ_len (s3.rest.length + 1) s3).2
  obtain ⟨tt, s4, e4⟩ : ∃ tt s4, partsP elemQ cmB s3 = (tt, s4) := ⟨_, _, rfl⟩
  change (partsP elemQ cmB s3).1.length ≤ _ at htot
  rw [e4] at hm1 hst htl hlast htot
  simp only at hm1 hst htl hlast htot
  obtain ⟨s5, e5⟩ : ∃ s5, mustP s4 [cB, withB] = s5 := ⟨_, rfl⟩
  obtain ⟨ww, s6, e6⟩ : ∃ ww s6, takeP s5 2 = (ww, s6) := ⟨_, _, rfl⟩
  obtain ⟨bb, s7, e7⟩ : ∃ bb s7, eatP s6 byyB = (bb, s7) := ⟨_, _, rfl⟩
  have hq : patternQ s = patE tt ww.n bb s7 := by
    simp only [patternQ, e3, e4, e5, e6, e7]
    rfl
  rw [hq]
  have cM1 := fun (V : World) (x : RS n B V s) => e3 ▸ must_two n B s seB oB V x
  have cM2 := fun (V : World) (x : RS n B V s4) => e5 ▸ must_two n B s4 cB withB V x
  have cW := fun (V : World) (x : RS n B V s5) => e6 ▸ window9_c n B s5 V x
  have cBy := fun (V : World) (x : RS n B V s6) => e7 ▸ eat_c n B s6 byyB V x
  simp only at cW cBy
  replace cM1 := hide cM1
  replace cM2 := hide cM2
  replace cW := hide cW
  replace cBy := hide cBy
  clear e3 e4 e5 e6 e7 hq
  refine callsIn_wide.1 (show CallsIn Fence.wide 5 _ _ _ _ _ from ?_)
  refine callsIn_of_wp_marks Tryz.func23 rfl trivial ?_ rfl
  simp only [Tryz.ntmps23, List.size_toArray, List.length_cons, List.length_nil, Nat.reduceAdd, Nat.reduceSub, Array.replicate_succ, Array.replicate_zero, List.push_toArray, List.append_toArray, List.nil_append, List.cons_append]
  obtain ⟨W0, hW0⟩ : ∃ W0, W0 = ((W.alloc (.cells #[.pointer (some ⟨B, 0, none⟩)] 56)).alloc (.cells #[.slice none 0 0, .int .i64 0, .string ⟨#[]⟩, .bool false] 36)).alloc (.cells #[.slice none 0 0, .int .i64 0, .string ⟨#[]⟩, .bool false] 36) := ⟨_, rfl⟩
  have b0 : Below W.heap.size W W0 := by rw [hW0]; exact (((Below.refl _ _).alloc (Nat.le_refl _) _).alloc (by simp) _).alloc (by simp; omega) _
  have F0 : EFr n B W W0 s 36 #[.slice none 0 0, .int .i64 0, .string ⟨#[]⟩, .bool false] #[.slice none 0 0, .int .i64 0, .string ⟨#[]⟩, .bool false] := ⟨h.up b0, Kb.of b0, by rw [hW0]; exact ((Box.new _ _ _).alloc _).alloc _, by rw [hW0]; exact (box_next _ _ _ _).alloc _, by
    rw [hW0]
    have := box_next (W.alloc (.cells #[.pointer (some ⟨B, 0, none⟩)] 56)) (.cells #[.slice none 0 0, .int .i64 0, .string ⟨#[]⟩, .bool false] 36) 36 #[.slice none 0 0, .int .i64 0, .string ⟨#[]⟩, .bool false]
    rwa [World.size_alloc] at this⟩
  clear b0
  gi_upto_region 2 with fail
  rw [← hW0]
  clear hW0
  obtain ⟨b0, -⟩ := F0.bx.one
  have cc := hide (callsIn_wide.2 (unhide cM1 W0 F0.rs) : CallsIn Fence.wide 4 _ _ _ _ _)
  have FF := hide F0
  clear F0
  gi_wp2_with fail
  refine ⟨trivial, ?_⟩
  refine (unhide cc).mono ?_
  rintro r W3 ⟨rfl, h1, k1⟩
  clear cc b0
  have F5 := (unhide FF).up hBl k1 h1
  clear FF h1 k1
  clear cM1
  have cQ := hide (callsIn_wide.2 (rparted_c B cmB W3) : CallsIn Fence.wide 4 _ _ _ _ _)
  obtain ⟨b0, -⟩ := F5.bx.one
  have hW3 : W.heap.size + 3 ≤ W3.heap.size := by have := F5.cx.lt; omega
  have hs3l : s3.rest.length ≤ 1000 := by obtain ⟨_, _, _, _, _, y, _⟩ := F5.rs; exact y
  have FF := hide F5
  clear F5
  gi_wp2_with fail
  refine ⟨trivial, ?_⟩
  refine (unhide cQ).mono ?_
  rintro r W4 ⟨rfl, hb4, x1, x2⟩
  clear cQ b0
  obtain ⟨D1, hD1⟩ : ∃ D1, D1 = W3.heap.size := ⟨_, rfl⟩
  rw [← hD1] at x1 x2 hW3 ⊢
  have F6 := (unhide FF).up hBl (Kb.of hb4) ((unhide FF).rs.up hb4)
  have hW4 : D1 + 2 ≤ W4.heap.size := by have := x2.lt; omega
  clear FF hb4 hD1
  have J0 : ElJ n B W D1 cmB s3 [] W4 := ⟨none, 0, [], fun _ => (0, 0), rfl, F6, World.ownsRow_nil _ _ _ _, x1, x2, fun j x hx => by simp at hx⟩
  clear F6 x1 x2
  replace J0 := hide J0
  gi_wp2_with fail
  have J0' := unhide J0
  refine wpIn_rangeFunc_rounds rfl (by decide) (gf := 83) (lb := #[.pointer (some ⟨D1, 0, none⟩), .pointer (some ⟨D1 + 1, 0, none⟩)]) rfl trivial (enters_of Tryz.func83 (by kernel_rfl) rfl) (B := B) (by omega) (m := tt.length)
    (J := fun j => ElJ n B W D1 cmB (prS elemQ j s3) (tt.take j)) (E := fun j => ElJ n B W D1 cmB (stS elemQ j s3) (tt.take (j + 1))) (Fin := ElJ n B W D1 cmB s4 tt)
    (parted_seq n B D1 (D1 + 1) cmB tt.length hm1 (fun j => stS elemQ j s3) _ _ _ hst ?hE ?hJ ?hF) (fun j => ElJ.own (by omega)) (fun j => ElJ.own (by omega)) (ElJ.own (by omega)) J0' ?assign ?body ?done
  case hE =>
    rintro j V hj ⟨a, c, l, f, e, F, ho, x1, x2, hel⟩
    exact ⟨F.rs, x1, x2⟩
  case hJ =>
    intro j V U hj hE hk hr
    rw [prS_succ]
    exact hE.up hBl (by omega) hk hr
  case hF =>
    intro j V U hj hE hk hr
    have e1 : tt.take (j + 1) = tt := List.take_of_length_le (by omega)
    have e2 : s4 = stS elemQ j s3 := by rw [hlast, show tt.length - 1 = j by omega]
    rw [e1] at hE
    rw [e2]
    exact hE.up hBl (by omega) hk hr
  case assign =>
    intro l j V K hj hJ hK
    gi_wp2_with fail
    exact hK
  case body =>
    rintro lo j V hj ⟨a, c, l, f, hle, F, ho, x1, x2, hel⟩
    obtain ⟨x, hx⟩ : ∃ x, x = (elemQ (prS elemQ j s3)).1 := ⟨_, rfl⟩
    have htk : tt.take (j + 1) = tt.take j ++ [x] := by rw [List.take_add_one, htl j hj, hx]; rfl
    have hlj : l.length = j := by have := congrArg List.length hle; simp at this; omega
    have hjl : j ≤ 1000 := by omega
    have hxts : x.ts.length ≤ 100000 := by
      rw [hx]
      have h1 := elemQ_ts (prS elemQ j s3)
      have h2 := prS_len elemQ elemQ_len j s3
      omega
    have E1 := hide (show ∀ U, ElJ n B W D1 cmB (elemQ (prS elemQ j s3)).2 (l.map Ew.e ++ [x]) U → ElJ n B W D1 cmB (stS elemQ j s3) (tt.take (j + 1)) U from fun U h => by rw [htk, ← hle]; exact h)
    have cNm := hide (fun (U : World) (y : RS n B U (prS elemQ j s3)) (z : PsV U) => element9_c n B (prS elemQ j s3) U y z hB3)
    rw [← hx] at cNm
    generalize (elemQ (prS elemQ j s3)).2 = sN at E1 cNm
    generalize prS elemQ j s3 = sJ at F cNm
    clear hx htk hle
    gi_wp2_with fail
    obtain ⟨V', hV'⟩ : ∃ V', V' = ({ heap := V.heap, tape := V.tape, drawn := V.drawn + 1, os := V.os, output := V.output } : World) := ⟨_, rfl⟩
    have bV : Below V.heap.size V V' := by rw [hV']; exact (Below.refl _ _).drew
    have FV := F.up hBl (Kb.of bV) (F.rs.up bV)
    have hoV := owns_below' ho bV
    have cD : Box V' (W.heap.size + 2) 36 #[.slice a l.length c, .int .i64 0, .string ⟨#[]⟩, .bool false] ∧ Box V' W.heap.size 56 #[.pointer (some ⟨B, 0, none⟩)] := ⟨FV.cx, FV.bx⟩
    have cc := hide (unhide cNm V' FV.rs (hP.kb FV.kb hB3))
    have kf0 : KeepsFrom W4.heap.size V V' := keeps_bel bV
    refine wpIn_region_plain hmx (by kernel_rfl) ?no (wpAny_of_Z (z := 7) (C := fun w' => Box w' (W.heap.size + 2) 36 #[.slice a l.length c, .int .i64 0, .string ⟨#[]⟩, .bool false] ∧ Box w' W.heap.size 56 #[.pointer (some ⟨B, 0, none⟩)]) _ _ _ _ ?_)
    case no => exact fun ⟨a, w, h⟩ => h
    rw [← hV']
    clear hV' F ho
    have FH := hide FV
    have OH := hide hoV
    have X1 := hide (x1.on bV x1.lt)
    have X2 := hide (x2.on bV x2.lt)
    have hxl := (x2.on bV x2.lt).lt
    have HE := hide (show ∀ (j : Nat) x, l[j]? = some x → ElIn (f j).1 (f j).2 V' x ∧ D1 + 2 ≤ (f j).1 ∧ (f j).2 ≤ V'.heap.size ∧ ∀ g, Value.ownBlock (.slice a l.length c) = some g → g < (f j).1 ∨ (f j).2 ≤ g from fun j x hx => ⟨(hel j x hx).1.keep (fun b _ hb => bV.block b (by have := (hel j x hx).2.2.1; omega)), (hel j x hx).2.1, Nat.le_trans (hel j x hx).2.2.1 bV.size, (hel j x hx).2.2.2⟩)
    clear FV hoV x1 x2 hel
    refine wpAnyZ_reads 0 cD (by kernel_rfl) (by kernel_rfl) (by kernel_rfl) (by kernel_rfl) (fun d _ _ _ _ h => by cases d <;> exact h) (fun oi ho K hK => ?_)
    simp only [List.getElem?_toArray, List.getElem?_cons_zero, Option.some.injEq] at ho
    subst ho
    rw [if_pos (by kernel_rfl)]
    refine ⟨.pointer (some ⟨W.heap.size + 1 + 1, 0, none⟩), fun w' hw' => ?_, hK _ ?_⟩
    · clear hw'
      go_simp
    clear hK K
    refine wpAnyZ_reads 1 cD (by kernel_rfl) (by kernel_rfl) (by kernel_rfl) (by kernel_rfl) (fun d _ _ _ _ h => by cases d <;> exact h) (fun oi ho K hK => ?_)
    simp only [List.getElem?_toArray, List.getElem?_cons_succ, List.getElem?_cons_zero, Option.some.injEq] at ho
    subst ho
    rw [if_pos (by kernel_rfl)]
    refine ⟨.slice a l.length c, fun w' hw' => ?_, hK _ ?_⟩
    · have q0 := hw'.1.at 0 rfl; have q1 := hw'.2.at 0 rfl
      go_simp
    clear hK K
    refine wpAnyZ_reads 2 cD (by kernel_rfl) (by kernel_rfl) (by kernel_rfl) (by kernel_rfl) (fun d _ _ _ _ h => by cases d <;> exact h) (fun oi ho K hK => ?_)
    simp only [List.getElem?_toArray, List.getElem?_cons_succ, List.getElem?_cons_zero, Option.some.injEq] at ho
    subst ho
    rw [if_pos (by kernel_rfl)]
    refine ⟨.pointer (some ⟨B, 0, none⟩), fun w' hw' => ?_, hK _ ?_⟩
    · have q0 := hw'.1.at 0 rfl; have q1 := hw'.2.at 0 rfl
      go_simp
    clear hK K
    refine wpAnyZ_calls 3 (by kernel_rfl) (fun oi ho K hK => ?_)
    simp only [List.getElem?_toArray, List.getElem?_cons_succ, List.getElem?_cons_zero, Option.some.injEq] at ho
    subst ho
    go_simp
    refine (unhide cc).mono ?_
    rintro r u1 ⟨v, rfl, ⟨p, rfl, ht1, hl1, hcp⟩, h1, k1⟩
    clear cc
    go_simp
    have F1 := (unhide FH).up hBl k1 h1
    have ho1 := k1.own (by omega) (unhide OH)
    refine hK _ _ (.inr ⟨F1.cx, F1.bx⟩) ?_
    clear hK K
    refine wpAnyZ_calls 4 (by kernel_rfl) (fun oi ho K hK => ?_)
    simp only [List.getElem?_toArray, List.getElem?_cons_succ, List.getElem?_cons_zero, Option.some.injEq] at ho
    subst ho
    go_simp
    have b2 : Below u1.heap.size u1 (u1.alloc (.cells (x.cs p) 55)) := (Below.refl _ _).alloc (Nat.le_refl _) _
    have F2 := F1.up hBl (Kb.of b2) (F1.rs.up b2)
    refine hK _ _ (.inr ⟨F2.cx, F2.bx⟩) ?_
    clear hK K
    obtain ⟨u, eu⟩ : ∃ u, u = u1.alloc (.cells (x.cs p) 55) := ⟨_, rfl⟩
    have hnb : Box u u1.heap.size 55 (x.cs p) := by rw [eu]; exact Box.new _ _ _
    rw [← eu] at b2 F2
    have hoU := owns_below' ho1 b2
    have kf2 : KeepsFrom W4.heap.size V u := kf0.trans ((keeps_kb k1 (unhide FH).rs.2.2.choose_spec.choose_spec.2.2.1).trans (keeps_bel b2))
    have X1U := (k1.box (unhide X1) (by omega)).on b2 (k1.box (unhide X1) (by omega)).lt
    have X2U := (k1.box (unhide X2) (by omega)).on b2 (k1.box (unhide X2) (by omega)).lt
    have hszu := X2U.lt
    have hs1 := k1.size
    have hsu := b2.size
    have HEu := hide (show ∀ (j : Nat) x, l[j]? = some x → ElIn (f j).1 (f j).2 u x from fun j x hx => by
      obtain ⟨q1, q2, q3, q4⟩ := unhide HE j x hx
      exact q1.keep fun b hm hb => (b2.block b (by omega)).trans (k1.block b (by omega) (by omega)))
    have elU : ElIn V'.heap.size u1.heap.size u ⟨x, p⟩ := (show ElIn V'.heap.size u1.heap.size u1 ⟨x, p⟩ from ⟨ht1, hl1, hcp, hxts⟩).keep fun b hm hb => b2.block b hb
    replace elU := hide elU
    dsimp only [Em.cs] at eu
    rw [← eu]
    clear eu b2 F1 ho1 h1 k1 kf0 ht1 hl1
    refine wpAnyZ_calls 5 (by kernel_rfl) (fun oi ho K hK => ?_)
    simp only [List.getElem?_toArray, List.getElem?_cons_succ, List.getElem?_cons_zero, Option.some.injEq] at ho
    subst ho
    refine step_own u (by rfl) (.tmp 11) (.tmp 14) 34 (by rfl) (D1 + 2) 55 i0 (.agg zeroM) 11 144 Tryz.underlying34 hi0 hz0 hz1 hz2 (by rfl) (by decide) (.slice a l.length c) l.length (newsE l) ?q1 hoU ⟨u1.heap.size, 0, none⟩ 1 1 (x.cs p).toList ?q2 (by rfl) (news_box hnb) (fun q hq => newsE_one [⟨x, p⟩] q (by simpa [newsE] using hq)) (by unfold maxLen; omega) (by omega) (by omega) ?_
    case q1 => go_simp
    case q2 => go_simp
    intro v5 u5 ho5 hg5 hw5
    rw [show newsE l ++ (x.cs p).toList = newsE (l ++ [⟨x, p⟩]) by rw [newsE_append]; simp [newsE]] at ho5
    have hrow : ∀ k, Value.ownBlock (.slice a l.length c) = some k → D1 + 2 ≤ k ∧ k < V'.heap.size := fun k e => ⟨(hoU.lt k e).1, ((unhide OH).lt k e).2⟩
    have F5 := F2.grow hnW hg5 (fun k e => by have := (hrow k e).1; omega)
    have kf5 := kf2.trans (keeps_own (m := W4.heap.size) hoU hg5)
    have X15 : Box u5 D1 56 #[.pointer (some ⟨B, 0, none⟩)] := (hg5.block _ X1U.lt (fun e => by have := (hrow _ e.symm).1; omega)).trans X1U
    have X25 : Box u5 (D1 + 1) 9 #[.string cmB] := (hg5.block _ X2U.lt (fun e => by have := (hrow _ e.symm).1; omega)).trans X2U
    have hsz5 := hg5.size
    have HE5 := hide (show ∀ (j : Nat) y, (l ++ [⟨x, p⟩])[j]? = some y → ElIn ((fun j => if j < l.length then f j else (V'.heap.size, u1.heap.size)) j).1 ((fun j => if j < l.length then f j else (V'.heap.size, u1.heap.size)) j).2 u5 y ∧ D1 + 2 ≤ ((fun j => if j < l.length then f j else (V'.heap.size, u1.heap.size)) j).1 ∧ ((fun j => if j < l.length then f j else (V'.heap.size, u1.heap.size)) j).2 ≤ u5.heap.size ∧
        ∀ g, v5.ownBlock = some g → g < ((fun j => if j < l.length then f j else (V'.heap.size, u1.heap.size)) j).1 ∨ ((fun j => if j < l.length then f j else (V'.heap.size, u1.heap.size)) j).2 ≤ g from fun j y hy => by
      by_cases hjl : j < l.length
      · simp only [if_pos hjl]
        rw [List.getElem?_append_left hjl] at hy
        obtain ⟨q1, q2, q3, q4⟩ := unhide HE j y hy
        refine ⟨(unhide HEu j y hy).keep fun b hm hb => hg5.block b (by omega) (fun e => by have := q4 b e.symm; omega), q2, by omega, fun g hg => ?_⟩
        rcases hw5 with e | e
        · rw [e] at hg; exact q4 g hg
        · rw [e] at hg; cases hg; right; omega
      · have hj0 : j = l.length := by have := (List.getElem?_eq_some_iff.1 hy).1; simp at this; omega
        simp only [if_neg hjl]
        rw [List.getElem?_append_right (by omega), hj0, Nat.sub_self] at hy
        simp at hy; subst hy
        refine ⟨(unhide elU).keep fun b hm hb => hg5.block b (by omega) (fun e => by have := (hrow b e.symm).2; omega), by omega, by omega, fun g hg => ?_⟩
        rcases hw5 with e | e
        · rw [e] at hg; left; exact (hrow g hg).2
        · rw [e] at hg; cases hg; right; omega)
    obtain ⟨a5, c5, rfl⟩ := owns_form ho5
    refine hK _ _ (.inr ⟨F5.cx, F5.bx⟩) ?_
    clear hK K
    refine wpAnyZ_calls 6 (by kernel_rfl) (fun oi ho K hK => ?_)
    simp only [List.getElem?_toArray, List.getElem?_cons_succ, List.getElem?_cons_zero, Option.some.injEq] at ho
    subst ho
    go_simp
    refine hK _ _ (.inr ⟨F5.cx, F5.bx⟩) ?_
    clear hK K
    have hc1 := F5.cx.at 0 rfl
    have hf1 := F5.cx.frz 0
    have F6 := F5.set hnW 0 (.slice a5 (l.length + 1) c5)
    have hol := ho5.lt
    have o6 : (u5.setCell ⟨W.heap.size + 2, 0, none⟩ (.slice a5 (l.length + 1) c5)).ownsRow (D1 + 2) 55 11 (.slice a5 (l.length + 1) c5) (l.length + 1) (newsE (l ++ [⟨x, p⟩])) := owns_keep ho5 (fun g hg _ => setCell_block _ _ _ (by have := (hol g hg).1; show W.heap.size + 2 ≠ g; omega))
    have X16 := X15.other ⟨W.heap.size + 2, 0, none⟩ (.slice a5 (l.length + 1) c5) (by show W.heap.size + 2 ≠ D1; omega)
    have X26 := X25.other ⟨W.heap.size + 2, 0, none⟩ (.slice a5 (l.length + 1) c5) (by show W.heap.size + 2 ≠ D1 + 1; omega)
    have kf6 := kf5.trans (keeps_set (m := W4.heap.size) F5.cx 0 (.slice a5 (l.length + 1) c5))
    have fin := hide (unhide E1 _ ⟨a5, c5, l ++ [⟨x, p⟩], _, by simp, by rw [List.length_append]; exact F6, by rw [List.length_append]; exact o6, X16, X26, fun j y hy => by
      obtain ⟨q1, q2, q3, q4⟩ := unhide HE5 j y hy
      exact ⟨q1.keep fun b hm hb => setCell_block _ _ _ (by show W.heap.size + 2 ≠ b; omega), q2, by simpa using q3, by rw [List.length_append]; exact q4⟩⟩)
    replace kf6 := hide kf6
    clear F6 o6 X16 X26 F5 X15 X25 kf5 ho5 hol hnb hoU F2 kf2 X1U X2U hg5 hw5 hrow FH OH X1 X2 E1 HE HEu HE5 elU
    refine wpAnyZ_calls 7 (by kernel_rfl) (fun oi ho K hK => ?_)
    simp only [List.getElem?_toArray, List.getElem?_cons_succ, List.getElem?_cons_zero, Option.some.injEq] at ho
    subst ho
    go_simp
    refine hK _ _ (.inl rfl) ?_
    clear hK K hc1 hf1
    refine wpAnyZ_done (by kernel_rfl) ?_ _
    have kf6' := unhide kf6
    have fin' := unhide fin
    rw [hlj] at kf6' fin'
    exact ⟨kf6', fin'⟩
  case done =>
    rintro D V3 hD ⟨a, c, l, f, hle, F, ho, x1, x2, hel⟩ hd
    have hll : l.length = tt.length := by rw [← hle]; simp
    have hcap : tt.length ≤ c := by rw [← hll]; exact own_cap ho
    have hem := emsm_own (m := D1 + 2) ho (Nat.le_refl _) (fun j x hx => (hel j x hx).1.mono (hel j x hx).2.1 (hel j x hx).2.2.1)
    rw [hle] at hem
    rw [hll] at F
    clear hst htl hlast x1 x2 J0' ho hel hll hle hi0 hz0 hz1 hz2 htot
    obtain ⟨b0, -⟩ := F.bx.one
    have cc := hide (callsIn_wide.2 (unhide cM2 V3 F.rs) : CallsIn Fence.wide 4 _ _ _ _ _)
    have FF := hide F
    have HE := hide hem
    have HD := hide hd
    have hz6 := F.cx.lt
    have hzd := (Array.getElem?_eq_some_iff.1 hd).1
    clear F hem hd
    gi_wp2_with fail
    refine ⟨trivial, ?_⟩
    refine (unhide cc).mono ?_
    rintro r V4 ⟨rfl, h1, k1⟩
    clear cc b0
    have F1 := (unhide FF).up hBl k1 h1
    have hem := ((unhide HE).keep fun b hm hb => k1.block b hb (by omega)).mono (Nat.le_refl _) k1.size
    have hd := (k1.block _ hzd (by omega)).trans (unhide HD)
    clear FF h1 k1 HE HD hz6 hzd
    obtain ⟨b0, -⟩ := F1.bx.one
    have cc := hide (callsIn_wide.2 (unhide cW V4 F1.rs) : CallsIn Fence.wide 4 _ _ _ _ _)
    have FF := hide F1
    have HE := hide hem
    have HD := hide hd
    have hz6 := F1.cx.lt
    have hzd := (Array.getElem?_eq_some_iff.1 hd).1
    clear F1 hem hd
    gi_wp2_with fail
    refine ⟨trivial, ?_⟩
    refine (unhide cc).mono ?_
    rintro r V5 ⟨rfl, h1, k1⟩
    clear cc b0
    have F2 := (unhide FF).up hBl k1 h1
    have hem := ((unhide HE).keep fun b hm hb => k1.block b hb (by omega)).mono (Nat.le_refl _) k1.size
    have hd := (k1.block _ hzd (by omega)).trans (unhide HD)
    clear FF h1 k1 HE HD hz6 hzd
    have hc := F2.cx.at 1 rfl
    have hf := F2.cx.frz 1
    have hz6 := F2.cx.lt
    have G1 := hide (F2.set hnW 1 (.int .i64 ww.n))
    have HE := hide ((hem.keep (W := V5.setCell ⟨W.heap.size + 2, 1, none⟩ (.int .i64 ww.n)) fun b hm hb => setCell_block _ _ _ (by show W.heap.size + 2 ≠ b; omega)).mono (l := (V5.setCell ⟨W.heap.size + 2, 1, none⟩ (.int .i64 ww.n)).heap.size) (Nat.le_refl _) (by simp))
    have HD := hide (show (V5.setCell ⟨W.heap.size + 2, 1, none⟩ (.int .i64 ww.n)).heap[D]? = some (.deferred (some [])) from (setCell_block _ _ _ (by show W.heap.size + 2 ≠ D; omega)).trans hd)
    clear F2 hem hd
    gi_upto_region 7 with fail
    generalize V5.setCell ⟨W.heap.size + 2, 1, none⟩ (.int .i64 ww.n) = V6 at G1 HE HD ⊢
    clear hc hf hz6
    have F2' := unhide G1
    have hem := unhide HE
    have hd := unhide HD
    clear G1 HE HD
    obtain ⟨b0, -⟩ := F2'.bx.one
    have cc := hide (callsIn_wide.2 (unhide cBy V6 F2'.rs) : CallsIn Fence.wide 4 _ _ _ _ _)
    have FF := hide F2'
    have HE := hide hem
    have HD := hide hd
    have hz6 := F2'.cx.lt
    have hzd := (Array.getElem?_eq_some_iff.1 hd).1
    clear F2' hem hd
    gi_wp2_with fail
    refine ⟨trivial, ?_⟩
    refine (unhide cc).mono ?_
    rintro r V7 ⟨rfl, h1, k1⟩
    clear cc b0
    have F3 := (unhide FF).up hBl k1 h1
    have hem := ((unhide HE).keep fun b hm hb => k1.block b hb (by omega)).mono (Nat.le_refl _) k1.size
    have hd := (k1.block _ hzd (by omega)).trans (unhide HD)
    clear FF h1 k1 HE HD hz6 hzd
    cases bb
    · skip
      obtain ⟨an, s9, e9⟩ : ∃ an s9, eatP s7 anB = (an, s9) := ⟨_, _, rfl⟩
      have cAn := eat_c n B s7 anB V7 F3.rs
      rw [e9] at cAn
      simp only at cAn
      obtain ⟨b0, -⟩ := F3.bx.one
      have cc := hide (callsIn_wide.2 cAn : CallsIn Fence.wide 4 _ _ _ _ _)
      have FF := hide F3
      have HE := hide hem
      have HD := hide hd
      have hz6 := F3.cx.lt
      have hzd := (Array.getElem?_eq_some_iff.1 hd).1
      clear F3 hem hd
      gi_wp2_with fail
      refine ⟨trivial, ?_⟩
      refine (unhide cc).mono ?_
      rintro r V9 ⟨rfl, h1, k1⟩
      clear cc b0 cAn
      have F9 := (unhide FF).up hBl k1 h1
      have hem := ((unhide HE).keep fun b hm hb => k1.block b hb (by omega)).mono (Nat.le_refl _) k1.size
      have hd := (k1.block _ hzd (by omega)).trans (unhide HD)
      clear FF h1 k1 HE HD hz6 hzd
      have hc := F9.cx.at 3 rfl
      have hf := F9.cx.frz 3
      have hz6 := F9.cx.lt
      have G1 := hide (F9.set hnW 3 (.bool an))
      have HE := hide ((hem.keep (W := V9.setCell ⟨W.heap.size + 2, 3, none⟩ (.bool an)) fun b hm hb => setCell_block _ _ _ (by show W.heap.size + 2 ≠ b; omega)).mono (l := (V9.setCell ⟨W.heap.size + 2, 3, none⟩ (.bool an)).heap.size) (Nat.le_refl _) (by simp))
      have HD := hide (show (V9.setCell ⟨W.heap.size + 2, 3, none⟩ (.bool an)).heap[D]? = some (.deferred (some [])) from (setCell_block _ _ _ (by show W.heap.size + 2 ≠ D; omega)).trans hd)
      clear F9 hem hd
      gi_upto_region 10 with fail
      generalize V9.setCell ⟨W.heap.size + 2, 3, none⟩ (.bool an) = VA at G1 HE HD ⊢
      clear hc hf hz6
      have F9' := unhide G1
      have hem := unhide HE
      have hd := unhide HD
      clear G1 HE HD
      obtain ⟨hc0, hc1, hc2, hc3⟩ := F9'.cx.four
      obtain ⟨hr0, hr1, hr2, hr3⟩ := F9'.zx.four
      have hz0' := F9'.zx.frz 0
      have hz1' := F9'.zx.frz 1
      have hz2' := F9'.zx.frz 2
      have hz3' := F9'.zx.frz 3
      have FF := hide F9'
      have HE := hide hem
      have HD := hide hd
      have hzl := F9'.cx.lt
      clear F9' hem hd
      gi_wp2_with fail
      obtain ⟨VF, hVF⟩ : ∃ VF, VF = ((((VA.setCell ⟨W.heap.size + 1, 0, none⟩ (.slice a tt.length c)).setCell ⟨W.heap.size + 1, 1, none⟩ (.int .i64 ww.n)).setCell ⟨W.heap.size + 1, 2, none⟩ (.string t0.1)).setCell ⟨W.heap.size + 1, 3, none⟩ (.bool an)) := ⟨_, rfl⟩
      have zF : Box VF (W.heap.size + 1) 36 #[.slice a tt.length c, .int .i64 ww.n, .string t0.1, .bool an] := by rw [hVF]; exact (unhide FF).zx.put4 (.slice a tt.length c) (.int .i64 ww.n) (.string t0.1) (.bool an)
      have kZ : Kb (W.heap.size + 1) VA VF := by rw [hVF]; exact ((((Kb.refl _ _).set 0 _).set 1 _).set 2 _).set 3 _
      have rF := (unhide FF).rs.kz kZ (by omega)
      have kF := (unhide FF).kb.tz kZ (by omega)
      have hdF := (kZ.block _ (Array.getElem?_eq_some_iff.1 (unhide HD)).1 (by omega)).trans (unhide HD)
      have eF := ((unhide HE).keep (fun b hm hb => kZ.block b hb (by omega))).mono (n := W.heap.size) (by omega) kZ.size
      refine ⟨by simp, .inl ⟨_, _, rfl, run_takeDeferred (show (((((VA.setCell ⟨W.heap.size + 1, 0, none⟩ (.slice a tt.length c)).setCell ⟨W.heap.size + 1, 1, none⟩ (.int .i64 ww.n)).setCell ⟨W.heap.size + 1, 2, none⟩ (.string t0.1)).setCell ⟨W.heap.size + 1, 3, none⟩ (.bool an))).heap[D]? = _ by rw [← hVF]; exact hdF), ?_⟩⟩
      rw [← hVF]
      clear hVF
      have zP := zF.put hdF rfl (.deferred none)
      obtain ⟨q0, q1, q2, q3⟩ := zP.four
      refine ⟨Pt.v ⟨tt, ww.n, t0, an⟩ a c, by simp [results, Tryz.results23, go_sem, q0, q1, q2, q3], ?_⟩
      rw [show patE tt ww.n false s7 = (⟨tt, ww.n, t0, an⟩, s9) by simp [patE, e9]]
      exact pat_post (q := ⟨tt, ww.n, t0, an⟩) rF kF hdF (by omega) eF hcap
    · skip
      obtain ⟨nm, s8, e8⟩ : ∃ nm s8, nameP s7 = (nm, s8) := ⟨_, _, rfl⟩
      have cNm := name_c n B s7 V7 F3.rs
      rw [e8] at cNm
      simp only at cNm
      obtain ⟨b0, -⟩ := F3.bx.one
      have cc := hide (callsIn_wide.2 cNm : CallsIn Fence.wide 4 _ _ _ _ _)
      have FF := hide F3
      have HE := hide hem
      have HD := hide hd
      have hz6 := F3.cx.lt
      have hzd := (Array.getElem?_eq_some_iff.1 hd).1
      clear F3 hem hd
      gi_wp2_with fail
      refine ⟨trivial, ?_⟩
      refine (unhide cc).mono ?_
      rintro r V8 ⟨rfl, h1, k1⟩
      clear cc b0 cNm
      have F4 := (unhide FF).up hBl k1 h1
      have hem := ((unhide HE).keep fun b hm hb => k1.block b hb (by omega)).mono (Nat.le_refl _) k1.size
      have hd := (k1.block _ hzd (by omega)).trans (unhide HD)
      clear FF h1 k1 HE HD hz6 hzd
      have hc := F4.cx.at 2 rfl
      have hf := F4.cx.frz 2
      have hz6 := F4.cx.lt
      have G1 := hide (F4.set hnW 2 (.string nm.1))
      have HE := hide ((hem.keep (W := V8.setCell ⟨W.heap.size + 2, 2, none⟩ (.string nm.1)) fun b hm hb => setCell_block _ _ _ (by show W.heap.size + 2 ≠ b; omega)).mono (l := (V8.setCell ⟨W.heap.size + 2, 2, none⟩ (.string nm.1)).heap.size) (Nat.le_refl _) (by simp))
      have HD := hide (show (V8.setCell ⟨W.heap.size + 2, 2, none⟩ (.string nm.1)).heap[D]? = some (.deferred (some [])) from (setCell_block _ _ _ (by show W.heap.size + 2 ≠ D; omega)).trans hd)
      clear F4 hem hd
      gi_upto_region 9 with fail
      generalize V8.setCell ⟨W.heap.size + 2, 2, none⟩ (.string nm.1) = VB at G1 HE HD ⊢
      clear hc hf hz6
      have F4' := unhide G1
      have hem := unhide HE
      have hd := unhide HD
      clear G1 HE HD
      obtain ⟨an, s9, e9⟩ : ∃ an s9, eatP s8 anB = (an, s9) := ⟨_, _, rfl⟩
      have cAn := eat_c n B s8 anB VB F4'.rs
      rw [e9] at cAn
      simp only at cAn
      obtain ⟨b0, -⟩ := F4'.bx.one
      have cc := hide (callsIn_wide.2 cAn : CallsIn Fence.wide 4 _ _ _ _ _)
      have FF := hide F4'
      have HE := hide hem
      have HD := hide hd
      have hz6 := F4'.cx.lt
      have hzd := (Array.getElem?_eq_some_iff.1 hd).1
      clear F4' hem hd
      gi_wp2_with fail
      refine ⟨trivial, ?_⟩
      refine (unhide cc).mono ?_
      rintro r V9 ⟨rfl, h1, k1⟩
      clear cc b0 cAn
      have F9 := (unhide FF).up hBl k1 h1
      have hem := ((unhide HE).keep fun b hm hb => k1.block b hb (by omega)).mono (Nat.le_refl _) k1.size
      have hd := (k1.block _ hzd (by omega)).trans (unhide HD)
      clear FF h1 k1 HE HD hz6 hzd
      have hc := F9.cx.at 3 rfl
      have hf := F9.cx.frz 3
      have hz6 := F9.cx.lt
      have G1 := hide (F9.set hnW 3 (.bool an))
      have HE := hide ((hem.keep (W := V9.setCell ⟨W.heap.size + 2, 3, none⟩ (.bool an)) fun b hm hb => setCell_block _ _ _ (by show W.heap.size + 2 ≠ b; omega)).mono (l := (V9.setCell ⟨W.heap.size + 2, 3, none⟩ (.bool an)).heap.size) (Nat.le_refl _) (by simp))
      have HD := hide (show (V9.setCell ⟨W.heap.size + 2, 3, none⟩ (.bool an)).heap[D]? = some (.deferred (some [])) from (setCell_block _ _ _ (by show W.heap.size + 2 ≠ D; omega)).trans hd)
      clear F9 hem hd
      gi_upto_region 10 with fail
      generalize V9.setCell ⟨W.heap.size + 2, 3, none⟩ (.bool an) = VA at G1 HE HD ⊢
      clear hc hf hz6
      have F9' := unhide G1
      have hem := unhide HE
      have hd := unhide HD
      clear G1 HE HD
      obtain ⟨hc0, hc1, hc2, hc3⟩ := F9'.cx.four
      obtain ⟨hr0, hr1, hr2, hr3⟩ := F9'.zx.four
      have hz0' := F9'.zx.frz 0
      have hz1' := F9'.zx.frz 1
      have hz2' := F9'.zx.frz 2
      have hz3' := F9'.zx.frz 3
      have FF := hide F9'
      have HE := hide hem
      have HD := hide hd
      have hzl := F9'.cx.lt
      clear F9' hem hd
      gi_wp2_with fail
      obtain ⟨VF, hVF⟩ : ∃ VF, VF = ((((VA.setCell ⟨W.heap.size + 1, 0, none⟩ (.slice a tt.length c)).setCell ⟨W.heap.size + 1, 1, none⟩ (.int .i64 ww.n)).setCell ⟨W.heap.size + 1, 2, none⟩ (.string nm.1)).setCell ⟨W.heap.size + 1, 3, none⟩ (.bool an)) := ⟨_, rfl⟩
      have zF : Box VF (W.heap.size + 1) 36 #[.slice a tt.length c, .int .i64 ww.n, .string nm.1, .bool an] := by rw [hVF]; exact (unhide FF).zx.put4 (.slice a tt.length c) (.int .i64 ww.n) (.string nm.1) (.bool an)
      have kZ : Kb (W.heap.size + 1) VA VF := by rw [hVF]; exact ((((Kb.refl _ _).set 0 _).set 1 _).set 2 _).set 3 _
      have rF := (unhide FF).rs.kz kZ (by omega)
      have kF := (unhide FF).kb.tz kZ (by omega)
      have hdF := (kZ.block _ (Array.getElem?_eq_some_iff.1 (unhide HD)).1 (by omega)).trans (unhide HD)
      have eF := ((unhide HE).keep (fun b hm hb => kZ.block b hb (by omega))).mono (n := W.heap.size) (by omega) kZ.size
      refine ⟨by simp, .inl ⟨_, _, rfl, run_takeDeferred (show (((((VA.setCell ⟨W.heap.size + 1, 0, none⟩ (.slice a tt.length c)).setCell ⟨W.heap.size + 1, 1, none⟩ (.int .i64 ww.n)).setCell ⟨W.heap.size + 1, 2, none⟩ (.string nm.1)).setCell ⟨W.heap.size + 1, 3, none⟩ (.bool an))).heap[D]? = _ by rw [← hVF]; exact hdF), ?_⟩⟩
      rw [← hVF]
      clear hVF
      have zP := zF.put hdF rfl (.deferred none)
      obtain ⟨q0, q1, q2, q3⟩ := zP.four
      refine ⟨Pt.v ⟨tt, ww.n, nm, an⟩ a c, by simp [results, Tryz.results23, go_sem, q0, q1, q2, q3], ?_⟩
      rw [show patE tt ww.n true s7 = (⟨tt, ww.n, nm, an⟩, s9) by simp [patE, e8, e9]]
      exact pat_post (q := ⟨tt, ww.n, nm, an⟩) rF kF hdF (by omega) eF hcap

end Go.Proofs.YtmhpakhnclkenaaGreatDoor
