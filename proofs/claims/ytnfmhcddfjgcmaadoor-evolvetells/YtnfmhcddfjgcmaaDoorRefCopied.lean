/-
  What the document's copied makes of a schema (package pasternref1, layer 4): the same types in new memory; for every schema of at most 5 types of at most 5 fields, in whatever world; nothing that lay is turned.
-/
import Derived.Test.YtnfmhcddfjgcmaaDoorApply
import Derived.Test.YtnfmhcddfjgcmaaDoorRefAsk
import Derived.Test.YtnfmhcddfjgcmaaDoorReadsZ
namespace Go.Proofs.YtnfmhcddfjgcmaaDoor
open Go.RowKit Go.Shelf

theorem run_append_none (t ty e : TypeId) (i : TypeInfo) (z : Value) (ht : Tryd.prog.underlying t = some (.slice e)) (hi : Tryd.prog.info? e = some i) (hz : i.zero = some z) (c : Nat) (w : World) :
    (Builtin.append_ #[t, t] ty #[.slice none 0 0, .slice none 0 c]).run Tryd.prog w = .ok (.slice none 0 0) w := by
  simp [Builtin.append_, run_underlying ht, sizeOf, typeInfo, zeroValue, hi, hz, Builtin.lenOf, Question.forced, run_firstCells_none]

/-- Nothing appended to nothing, as one step of a region that draws its order. -/
theorem step_none (w : World) {ops : Array Oper} {o : Oper} {a : Act} {K : Act → World → Prop} {Q : Exit → Act → World → Prop} {E : Prop} (hgd : o.guard = none) (s x : Operand) (t : TypeId)
    (ho : o.op = .call { callee := .builtin .append, args := #[s, x], argTypes := #[t, t] }) (e : TypeId) (i : TypeInfo) (z : Value) (ht : Tryd.prog.underlying t = some (.slice e)) (hi : Tryd.prog.info? e = some i) (hz : i.zero = some z)
    (c : Nat) (hs : a.eval s = .slice none 0 0) (hx : a.eval x = .slice none 0 c) (h : K (a.put o.dst (.slice none 0 0)) w) :
    if Region.wanted o (yielded ops a.tmps) = true then Oper.wp Tryd.prog o a w K Q else E := by
  have hw : Region.wanted o (yielded ops a.tmps) = true := by simp [Region.wanted, hgd]
  rw [if_pos hw]
  have hr := run_append_none t o.type e i z ht hi hz c w
  unfold Oper.wp execOp
  simp only [ho, resolve, invoke, builtin, Sem.run_bind, Sem.run_pure, Result.andThen_ok, List.map_toArray, List.map_cons, List.map_nil, hs, hx, hr]
  exact h

/-- Where a type's fields lie. -/
def Tw.blk (x : Tw) : Option Nat := (Value.slice x.2.1 x.1.2.length x.2.2).ownBlock
/-- The fields of the one don't lie where those of the other do. -/
def Apart (x y : Tw) : Prop := ∀ g, x.blk = some g → y.blk ≠ some g
theorem apart_snoc {base : Nat} {W : World} {xs : List Tw} {y : Tw} (h : xs.Pairwise Apart) (ho : ∀ x ∈ xs, Tw.own base W x) (hy : y.blk = none ∨ ∃ g, y.blk = some g ∧ W.heap.size ≤ g) : (xs ++ [y]).Pairwise Apart := by
  refine List.pairwise_append.2 ⟨h, List.pairwise_singleton _ _, fun x hx z hz => ?_⟩
  simp only [List.mem_singleton] at hz
  subst hz
  intro g hg
  rcases hy with hy | ⟨g', hy, hle⟩
  · rw [hy]; simp
  · rw [hy]
    intro e
    obtain ⟨_, cur, h1⟩ := owns_lt (ho x hx) hg
    have := (Array.getElem?_eq_some_iff.1 h1).1
    cases e
    omega

set_option maxRecDepth 100000 in
set_option maxHeartbeats 8000000 in
theorem copied_c (a : Option Addr) (cap : Nat) (ts : List Ty) (h5 : ts.length ≤ 5) (hk5 : ∀ k, (ty ts k).2.length ≤ 5) (w : World) (hT : Typs w.heap.size w a ts) :
    Calls Tryd.prog 23 #[.agg #[.slice a ts.length cap]] w fun e W' => ∃ (v : Value) (xs : List Tw), e = .returned (.agg #[v]) ∧ (xs.map (·.1) = ts ∧ ∀ x ∈ xs, Tw.own w.heap.size W' x) ∧ W'.ownsRow w.heap.size 51 2 v xs.length (newsT xs) ∧ Below w.heap.size w W' ∧ xs.Pairwise Apart := by
  obtain ⟨i0, hi, hz0, hz1, hz2⟩ := info_parts infoTy
  obtain ⟨j0, hj, hy0, hy1, hy2⟩ := info_parts infoFd
  have hmx : Tryd.prog.follows .mixedOrders = true := by kernel_rfl
  obtain ⟨W0, hW0⟩ : ∃ W0, W0 = ((w.alloc (.cells #[.slice a ts.length cap] 24)).alloc (.cells #[.slice none 0 0] 24)).alloc (.cells #[.slice none 0 0] 24) := ⟨_, rfl⟩
  have e0 : W0.heap.size = w.heap.size + 3 := by rw [hW0]; simp
  have b0 : Below w.heap.size w W0 := by rw [hW0]; exact (((Below.refl _ _).alloc (Nat.le_refl _) _).alloc (by simp) _).alloc (by simp; omega) _
  have x1 : Box W0 w.heap.size 24 #[.slice a ts.length cap] := by
    rw [hW0]; exact ((Box.new w 24 #[.slice a ts.length cap]).alloc _).alloc _
  have x2 : Box W0 (w.heap.size + 1) 24 #[.slice none 0 0] := by
    have := Box.new (w.alloc (.cells #[.slice a ts.length cap] 24)) 24 #[.slice none 0 0]
    simp only [World.size_alloc] at this
    rw [hW0]; exact this.alloc _
  have x3 : Box W0 (w.heap.size + 1 + 1) 24 #[.slice none 0 0] := by
    have := Box.new ((w.alloc (.cells #[.slice a ts.length cap] 24)).alloc (.cells #[.slice none 0 0] 24)) 24 #[.slice none 0 0]
    simp only [World.size_alloc] at this
    rw [hW0]; exact this
  have hW0' := hide hW0
  clear hW0
  go_enter Tryd.func23, Tryd.ntmps23
  go_wp2
  go_loopw [4] (fun i wr => ∃ (k : Nat) (xs : List Tw) (v : Value), k ≤ ts.length ∧ i = .int .i64 k ∧ Hid (xs.map (·.1) = ts.take k ∧ ∀ x ∈ xs, Tw.own (w.heap.size + 3) wr x) ∧ Hid (wr.ownsRow (w.heap.size + 3) 51 2 v k (newsT xs)) ∧ Box wr (w.heap.size + 1 + 1) 24 #[v] ∧ Box wr w.heap.size 24 #[.slice a ts.length cap] ∧ Box wr (w.heap.size + 1) 24 #[.slice none 0 0] ∧ Below w.heap.size w wr ∧ w.heap.size + 3 ≤ wr.heap.size ∧ Hid (xs.Pairwise Apart)) (fun i _ => ts.length - (intOf i).toNat)
  case atStart =>
    rw [← unhide hW0']
    exact ⟨0, [], .slice none 0 0, Nat.zero_le _, rfl, hide ⟨rfl, fun x hx => by simp at hx⟩, hide (World.ownsRow_nil _ _ _ _), x3, x1, x2, b0, by omega, hide List.Pairwise.nil⟩
  case round =>
    obtain ⟨k, xs, v, hk, rfl, hxs, hrow, y3, y1, y2, bw, hsz, hap⟩ := hrel
    clear x1 x2 x3 hW0' b0 e0
    have hs1 := y1.one.1
    by_cases hlt : k < ts.length
    · have T1 := hT.below bw
      obtain ⟨b, off, ha, hcn, a', c', hcf, hF⟩ := T1.at k hlt
      have hbS : b < w.heap.size := by
        rcases T1 with h | ⟨b', off', e', hb', _⟩
        · rw [h] at hlt; simp at hlt
        · rw [ha] at e'; cases e'; exact hb'
      subst ha
      have hf5 := hk5 k
      obtain ⟨⟨nm, fs⟩, ht⟩ : ∃ tt, tt = ty ts k := ⟨_, rfl⟩
      rw [← ht] at hcn hcf hF hf5
      simp only at hcn hcf hF hf5
      have hsucc := hide (show ts.take (k + 1) = ts.take k ++ [(nm, fs)] by rw [ht, List.take_succ_eq_append_getElem hlt]; simp [ty, hlt])
      have hlen : xs.length = k := by have := congrArg List.length (unhide hxs).1; simp at this; omega
      replace hlen := hide hlen
      clear ht T1
      have bD : Below wr.heap.size wr wr.drew := (Below.refl _ _).drew
      have cW : Box wr w.heap.size 24 #[.slice (some ⟨b, off, none⟩) ts.length cap] ∧ Box wr (w.heap.size + 1 + 1) 24 #[v] ∧ wr.cell? ⟨b, off + k * 2, none⟩ = some (.string nm.1) ∧ wr.cell? ⟨b, off + k * 2 + 1, none⟩ = some (.slice a' fs.length c') := ⟨y1, y3, hcn, hcf⟩
      have cD : Box wr.drew w.heap.size 24 #[.slice (some ⟨b, off, none⟩) ts.length cap] ∧ Box wr.drew (w.heap.size + 1 + 1) 24 #[v] ∧ wr.drew.cell? ⟨b, off + k * 2, none⟩ = some (.string nm.1) ∧ wr.drew.cell? ⟨b, off + k * 2 + 1, none⟩ = some (.slice a' fs.length c') := ⟨cW.1.on bD cW.1.lt, cW.2.1.on bD cW.2.1.lt, (bD.cell (p := ⟨b, off + k * 2, none⟩) (cell_lt cW.2.2.1)).trans cW.2.2.1, (bD.cell (p := ⟨b, off + k * 2 + 1, none⟩) (cell_lt cW.2.2.2)).trans cW.2.2.2⟩
      have hvs : ∃ av nv cv, v = .slice av nv cv := by
        rcases (unhide hrow).2 with ⟨h, _⟩ | ⟨g, cc, _, h, _⟩ <;> exact ⟨_, _, _, h⟩
      obtain ⟨av, nv, cv, rfl⟩ := hvs
      clear hcn hcf
      go_wp2_with fail
      clear hs1
      refine wp_region_any hmx (wpAny_of_Z (z := 19) (C := fun w' => Box w' w.heap.size 24 #[.slice (some ⟨b, off, none⟩) ts.length cap] ∧ Box w' (w.heap.size + 1 + 1) 24 #[.slice av nv cv] ∧ w'.cell? ⟨b, off + k * 2, none⟩ = some (.string nm.1) ∧ w'.cell? ⟨b, off + k * 2 + 1, none⟩ = some (.slice a' fs.length c')) _ _ _ _ ?_)
      refine wpAnyZ_reads 0 cD (by kernel_rfl) (by kernel_rfl) (by kernel_rfl) (by kernel_rfl) (fun d _ _ _ _ h => by cases d <;> exact h) (fun oi ho K hK => ?_)
      simp only [List.getElem?_toArray, List.getElem?_cons_zero, Option.some.injEq] at ho
      subst ho
      rw [if_pos (by kernel_rfl)]
      refine ⟨.pointer (some ⟨w.heap.size + 1 + 1, 0, none⟩), fun w' hw' => ?_, hK _ ?_⟩
      · obtain ⟨hx1, hx3, hxn, hxf⟩ := hw'
        have hs := hx1.one.1
        have ho := hx3.one.1
        go_simp
      clear hK K
      refine wpAnyZ_reads 1 cD (by kernel_rfl) (by kernel_rfl) (by kernel_rfl) (by kernel_rfl) (fun d _ _ _ _ h => by cases d <;> exact h) (fun oi ho K hK => ?_)
      simp only [List.getElem?_toArray, List.getElem?_cons_succ, List.getElem?_cons_zero, Option.some.injEq] at ho
      subst ho
      rw [if_pos (by kernel_rfl)]
      refine ⟨.slice av nv cv, fun w' hw' => ?_, hK _ ?_⟩
      · obtain ⟨hx1, hx3, hxn, hxf⟩ := hw'
        have hs := hx1.one.1
        have ho := hx3.one.1
        go_simp
      clear hK K
      refine wpAnyZ_reads 2 cD (by kernel_rfl) (by kernel_rfl) (by kernel_rfl) (by kernel_rfl) (fun d _ _ _ _ h => by cases d <;> exact h) (fun oi ho K hK => ?_)
      simp only [List.getElem?_toArray, List.getElem?_cons_succ, List.getElem?_cons_zero, Option.some.injEq] at ho
      subst ho
      rw [if_pos (by kernel_rfl)]
      refine ⟨.pointer (some ⟨w.heap.size, 0, none⟩), fun w' hw' => ?_, hK _ ?_⟩
      · obtain ⟨hx1, hx3, hxn, hxf⟩ := hw'
        have hs := hx1.one.1
        have ho := hx3.one.1
        go_simp
      clear hK K
      refine wpAnyZ_reads 3 cD (by kernel_rfl) (by kernel_rfl) (by kernel_rfl) (by kernel_rfl) (fun d _ _ _ _ h => by cases d <;> exact h) (fun oi ho K hK => ?_)
      simp only [List.getElem?_toArray, List.getElem?_cons_succ, List.getElem?_cons_zero, Option.some.injEq] at ho
      subst ho
      rw [if_pos (by kernel_rfl)]
      refine ⟨.slice (some ⟨b, off, none⟩) ts.length cap, fun w' hw' => ?_, hK _ ?_⟩
      · obtain ⟨hx1, hx3, hxn, hxf⟩ := hw'
        have hs := hx1.one.1
        have ho := hx3.one.1
        go_simp
      clear hK K
      refine wpAnyZ_reads 4 cD (by kernel_rfl) (by kernel_rfl) (by kernel_rfl) (by kernel_rfl) (fun d _ _ _ _ h => by cases d <;> exact h) (fun oi ho K hK => ?_)
      simp only [List.getElem?_toArray, List.getElem?_cons_succ, List.getElem?_cons_zero, Option.some.injEq] at ho
      subst ho
      rw [if_pos (by kernel_rfl)]
      refine ⟨.int .i64 k, fun w' hw' => ?_, hK _ ?_⟩
      · obtain ⟨hx1, hx3, hxn, hxf⟩ := hw'
        have hs := hx1.one.1
        have ho := hx3.one.1
        go_simp
      clear hK K
      refine wpAnyZ_reads 5 cD (by kernel_rfl) (by kernel_rfl) (by kernel_rfl) (by kernel_rfl) (fun d _ _ _ _ h => by cases d <;> exact h) (fun oi ho K hK => ?_)
      simp only [List.getElem?_toArray, List.getElem?_cons_succ, List.getElem?_cons_zero, Option.some.injEq] at ho
      subst ho
      rw [if_pos (by kernel_rfl)]
      refine ⟨.pointer (some ⟨b, off + k * 2, none⟩), fun w' hw' => ?_, hK _ ?_⟩
      · obtain ⟨hx1, hx3, hxn, hxf⟩ := hw'
        have hs := hx1.one.1
        have ho := hx3.one.1
        go_simp
      clear hK K
      refine wpAnyZ_reads 6 cD (by kernel_rfl) (by kernel_rfl) (by kernel_rfl) (by kernel_rfl) (fun d _ _ _ _ h => by cases d <;> exact h) (fun oi ho K hK => ?_)
      simp only [List.getElem?_toArray, List.getElem?_cons_succ, List.getElem?_cons_zero, Option.some.injEq] at ho
      subst ho
      rw [if_pos (by kernel_rfl)]
      refine ⟨.pointer (some ⟨b, off + k * 2, none⟩), fun w' hw' => ?_, hK _ ?_⟩
      · obtain ⟨hx1, hx3, hxn, hxf⟩ := hw'
        have hs := hx1.one.1
        have ho := hx3.one.1
        go_simp
      clear hK K
      refine wpAnyZ_reads 7 cD (by kernel_rfl) (by kernel_rfl) (by kernel_rfl) (by kernel_rfl) (fun d _ _ _ _ h => by cases d <;> exact h) (fun oi ho K hK => ?_)
      simp only [List.getElem?_toArray, List.getElem?_cons_succ, List.getElem?_cons_zero, Option.some.injEq] at ho
      subst ho
      rw [if_pos (by kernel_rfl)]
      refine ⟨.string nm.1, fun w' hw' => ?_, hK _ ?_⟩
      · obtain ⟨hx1, hx3, hxn, hxf⟩ := hw'
        have hs := hx1.one.1
        have ho := hx3.one.1
        go_simp
      clear hK K
      refine wpAnyZ_reads 8 cD (by kernel_rfl) (by kernel_rfl) (by kernel_rfl) (by kernel_rfl) (fun d _ _ _ _ h => by cases d <;> exact h) (fun oi ho K hK => ?_)
      simp only [List.getElem?_toArray, List.getElem?_cons_succ, List.getElem?_cons_zero, Option.some.injEq] at ho
      subst ho
      rw [if_pos (by kernel_rfl)]
      refine ⟨.pointer (some ⟨w.heap.size, 0, none⟩), fun w' hw' => ?_, hK _ ?_⟩
      · obtain ⟨hx1, hx3, hxn, hxf⟩ := hw'
        have hs := hx1.one.1
        have ho := hx3.one.1
        go_simp
      clear hK K
      refine wpAnyZ_reads 9 cD (by kernel_rfl) (by kernel_rfl) (by kernel_rfl) (by kernel_rfl) (fun d _ _ _ _ h => by cases d <;> exact h) (fun oi ho K hK => ?_)
      simp only [List.getElem?_toArray, List.getElem?_cons_succ, List.getElem?_cons_zero, Option.some.injEq] at ho
      subst ho
      rw [if_pos (by kernel_rfl)]
      refine ⟨.slice (some ⟨b, off, none⟩) ts.length cap, fun w' hw' => ?_, hK _ ?_⟩
      · obtain ⟨hx1, hx3, hxn, hxf⟩ := hw'
        have hs := hx1.one.1
        have ho := hx3.one.1
        go_simp
      clear hK K
      refine wpAnyZ_reads 10 cD (by kernel_rfl) (by kernel_rfl) (by kernel_rfl) (by kernel_rfl) (fun d _ _ _ _ h => by cases d <;> exact h) (fun oi ho K hK => ?_)
      simp only [List.getElem?_toArray, List.getElem?_cons_succ, List.getElem?_cons_zero, Option.some.injEq] at ho
      subst ho
      rw [if_pos (by kernel_rfl)]
      refine ⟨.int .i64 k, fun w' hw' => ?_, hK _ ?_⟩
      · obtain ⟨hx1, hx3, hxn, hxf⟩ := hw'
        have hs := hx1.one.1
        have ho := hx3.one.1
        go_simp
      clear hK K
      refine wpAnyZ_reads 11 cD (by kernel_rfl) (by kernel_rfl) (by kernel_rfl) (by kernel_rfl) (fun d _ _ _ _ h => by cases d <;> exact h) (fun oi ho K hK => ?_)
      simp only [List.getElem?_toArray, List.getElem?_cons_succ, List.getElem?_cons_zero, Option.some.injEq] at ho
      subst ho
      rw [if_pos (by kernel_rfl)]
      refine ⟨.pointer (some ⟨b, off + k * 2, none⟩), fun w' hw' => ?_, hK _ ?_⟩
      · obtain ⟨hx1, hx3, hxn, hxf⟩ := hw'
        have hs := hx1.one.1
        have ho := hx3.one.1
        go_simp
      clear hK K
      refine wpAnyZ_reads 12 cD (by kernel_rfl) (by kernel_rfl) (by kernel_rfl) (by kernel_rfl) (fun d _ _ _ _ h => by cases d <;> exact h) (fun oi ho K hK => ?_)
      simp only [List.getElem?_toArray, List.getElem?_cons_succ, List.getElem?_cons_zero, Option.some.injEq] at ho
      subst ho
      rw [if_pos (by kernel_rfl)]
      refine ⟨.pointer (some ⟨b, off + k * 2 + 1, none⟩), fun w' hw' => ?_, hK _ ?_⟩
      · obtain ⟨hx1, hx3, hxn, hxf⟩ := hw'
        have hs := hx1.one.1
        have ho := hx3.one.1
        go_simp
      clear hK K
      refine wpAnyZ_reads 13 cD (by kernel_rfl) (by kernel_rfl) (by kernel_rfl) (by kernel_rfl) (fun d _ _ _ _ h => by cases d <;> exact h) (fun oi ho K hK => ?_)
      simp only [List.getElem?_toArray, List.getElem?_cons_succ, List.getElem?_cons_zero, Option.some.injEq] at ho
      subst ho
      rw [if_pos (by kernel_rfl)]
      refine ⟨.slice a' fs.length c', fun w' hw' => ?_, hK _ ?_⟩
      · obtain ⟨hx1, hx3, hxn, hxf⟩ := hw'
        have hs := hx1.one.1
        have ho := hx3.one.1
        go_simp
      clear hK K
      cases a' with
      | some ad =>
        have hnews : ∀ j u, (newsF fs)[j]? = some u → wr.drew.cell? (ad.add j) = some u := by
          rcases hF with rfl | ⟨bf, of', e, _, hc⟩
          · intro j u h; simp [newsF] at h
          · cases e; exact newsF_cells hc
        refine wpAnyZ_calls 14 (by kernel_rfl) (fun oi ho K hK => ?_)
        simp only [List.getElem?_toArray, List.getElem?_cons_succ, List.getElem?_cons_zero, Option.some.injEq] at ho
        subst ho
        refine step_own wr.drew (by rfl) (.const (.slice none 0 0)) (.tmp 25) 49 (by rfl) (w.heap.size + 3) 56 j0 (.agg #[.string ⟨#[]⟩, .int .i64 0]) 2 24 Tryd.underlying49 hj hy0 hy1 hy2 (by rfl) (by decide) (.slice none 0 0) 0 [] ?q1 (World.ownsRow_nil _ _ _ _) ad fs.length c' (newsF fs) ?q2 (newsF_len fs) hnews (newsF_one fs) (by unfold maxLen; omega) (by omega) ?q3 ?_
        case q1 => go_simp
        case q2 => go_simp
        case q3 => simp; omega
        intro v1 w1 ho1 hg1 hfr
        rw [Nat.zero_add, List.nil_append] at ho1
        obtain ⟨a1, c1, rfl, -, -⟩ := flds_of_owns ho1
        have hap1 := hide (apart_snoc (y := ((nm, fs), a1, c1)) (unhide hap) (unhide hxs).2 (hfr.elim (fun h => .inl (h.trans rfl)) (fun h => .inr ⟨_, h, Nat.le_refl _⟩)))
        clear hfr
        have b1 : Below wr.drew.heap.size wr.drew w1 := (Below.refl _ _).grown hg1 (Nat.le_refl _) (fun j e => by cases e)
        have cE : Box w1 w.heap.size 24 #[.slice (some ⟨b, off, none⟩) ts.length cap] ∧ Box w1 (w.heap.size + 1 + 1) 24 #[.slice av nv cv] ∧ w1.cell? ⟨b, off + k * 2, none⟩ = some (.string nm.1) ∧ w1.cell? ⟨b, off + k * 2 + 1, none⟩ = some (.slice (some ad) fs.length c') := ⟨cD.1.on b1 cD.1.lt, cD.2.1.on b1 cD.2.1.lt, (b1.cell (p := ⟨b, off + k * 2, none⟩) (cell_lt cD.2.2.1)).trans cD.2.2.1, (b1.cell (p := ⟨b, off + k * 2 + 1, none⟩) (cell_lt cD.2.2.2)).trans cD.2.2.2⟩
        refine hK _ _ (.inr cE) ?_
        clear hK K hnews
        replace ho1 := hide ho1
        refine wpAnyZ_reads 15 cE (by kernel_rfl) (by kernel_rfl) (by kernel_rfl) (by kernel_rfl) (fun d _ _ _ _ h => by cases d <;> exact h) (fun oi ho K hK => ?_)
        simp only [List.getElem?_toArray, List.getElem?_cons_succ, List.getElem?_cons_zero, Option.some.injEq] at ho
        subst ho
        rw [if_pos (by kernel_rfl)]
        refine ⟨.agg #[.string nm.1, .slice a1 fs.length c1], fun w' hw' => ?_, hK _ ?_⟩
        · clear hw'
          go_simp
        clear hK K
        have bF : Below w1.heap.size w1 (w1.alloc (.cells #[.string nm.1, .slice a1 fs.length c1] 51)) := (Below.refl _ _).alloc (Nat.le_refl _) _
        have cF : Box (w1.alloc (.cells #[.string nm.1, .slice a1 fs.length c1] 51)) w.heap.size 24 #[.slice (some ⟨b, off, none⟩) ts.length cap] ∧ Box (w1.alloc (.cells #[.string nm.1, .slice a1 fs.length c1] 51)) (w.heap.size + 1 + 1) 24 #[.slice av nv cv] ∧ (w1.alloc (.cells #[.string nm.1, .slice a1 fs.length c1] 51)).cell? ⟨b, off + k * 2, none⟩ = some (.string nm.1) ∧ (w1.alloc (.cells #[.string nm.1, .slice a1 fs.length c1] 51)).cell? ⟨b, off + k * 2 + 1, none⟩ = some (.slice (some ad) fs.length c') := ⟨cE.1.on bF cE.1.lt, cE.2.1.on bF cE.2.1.lt, (bF.cell (p := ⟨b, off + k * 2, none⟩) (cell_lt cE.2.2.1)).trans cE.2.2.1, (bF.cell (p := ⟨b, off + k * 2 + 1, none⟩) (cell_lt cE.2.2.2)).trans cE.2.2.2⟩
        refine wpAnyZ_calls 16 (by kernel_rfl) (fun oi ho K hK => ?_)
        simp only [List.getElem?_toArray, List.getElem?_cons_succ, List.getElem?_cons_zero, Option.some.injEq] at ho
        subst ho
        go_simp
        refine hK _ _ (.inr cF) ?_
        clear hK K
        have q1 := (bD.trans (b1.mono bD.size)).trans (bF.mono (bD.trans (b1.mono bD.size)).size)
        have hrow1 := owns_below (unhide hrow) q1
        have hs1 := q1.size
        have hw1 := bF.size
        refine wpAnyZ_calls 17 (by kernel_rfl) (fun oi ho K hK => ?_)
        simp only [List.getElem?_toArray, List.getElem?_cons_succ, List.getElem?_cons_zero, Option.some.injEq] at ho
        subst ho
        refine step_own (w1.alloc (.cells #[.string nm.1, .slice a1 fs.length c1] 51)) (by rfl) (.tmp 13) (.tmp 28) 22 (by rfl) (w.heap.size + 3) 51 i0 (.agg #[.string ⟨#[]⟩, .slice none 0 0]) 2 40 Tryd.underlying22 hi hz0 hz1 hz2 (by rfl) (by decide) (.slice av nv cv) k (newsT xs) ?q1 hrow1 ⟨w1.heap.size, 0, none⟩ 1 1 [.string nm.1, .slice a1 fs.length c1] ?q2 (by rfl) (cell_two_new _ _ _ _) (by simp [Value.oneCell']) (by unfold maxLen; omega) (by omega) (by omega) ?_
        case q1 => go_simp
        case q2 => go_simp
        intro v2 w2 ho2 hg2 _
        have hne : ∀ g, (Value.slice av nv cv).ownBlock = some g → w.heap.size + 3 ≤ g ∧ ∃ cur, (w1.alloc (.cells #[.string nm.1, .slice a1 fs.length c1] 51)).heap[g]? = some (.cells cur 51 (0, 0)) := fun g hg => owns_lt hrow1 hg
        have hblk : ∀ q, q < (w1.alloc (.cells #[.string nm.1, .slice a1 fs.length c1] 51)).heap.size → (Value.slice av nv cv).ownBlock ≠ some q → w2.heap[q]? = (w1.alloc (.cells #[.string nm.1, .slice a1 fs.length c1] 51)).heap[q]? := fun q hq hn => hg2.block q hq (fun e => hn e.symm)
        have hlow : Below (w.heap.size + 3) (w1.alloc (.cells #[.string nm.1, .slice a1 fs.length c1] 51)) w2 := (Below.refl _ _).grown hg2 (by omega) (fun q e => (hne q e).1)
        have cG : Box w2 w.heap.size 24 #[.slice (some ⟨b, off, none⟩) ts.length cap] ∧ Box w2 (w.heap.size + 1 + 1) 24 #[.slice av nv cv] ∧ w2.cell? ⟨b, off + k * 2, none⟩ = some (.string nm.1) ∧ w2.cell? ⟨b, off + k * 2 + 1, none⟩ = some (.slice (some ad) fs.length c') := ⟨cF.1.on hlow (by omega), cF.2.1.on hlow (by omega), (hlow.cell (p := ⟨b, off + k * 2, none⟩) (by simp only; omega)).trans cF.2.2.1, (hlow.cell (p := ⟨b, off + k * 2 + 1, none⟩) (by simp only; omega)).trans cF.2.2.2⟩
        have hkeep : ∀ {n : Nat} {u : Value} {ys : List Value}, (w1.alloc (.cells #[.string nm.1, .slice a1 fs.length c1] 51)).ownsRow (w.heap.size + 3) 56 2 u n ys → w2.ownsRow (w.heap.size + 3) 56 2 u n ys := fun h => owns_keep h fun g hg hl => hblk g hl (fun e => by
          obtain ⟨_, cur, h1⟩ := hne g e
          obtain ⟨_, cur', h2⟩ := owns_lt h hg
          rw [h1] at h2; cases h2)
        have hown2 : ∀ x ∈ xs ++ [((nm, fs), a1, c1)], Tw.own (w.heap.size + 3) w2 x := fun x hx => by
          rcases List.mem_append.1 hx with hx | hx
          · exact hkeep (owns_below ((unhide hxs).2 x hx) q1)
          · simp only [List.mem_singleton] at hx
            subst hx
            exact hkeep (owns_below (unhide ho1) bF)
        obtain ⟨g2, cap2, rfl⟩ := ownsRow_succ ho2
        have y32 := y2.on q1 y2.lt
        replace y32 := y32.on hlow (by omega)
        have ho2' := owns_set ho2 ⟨w.heap.size + 1 + 1, 0, none⟩ (.slice (some ⟨g2, 0, none⟩) (k + 1) cap2) (by simp only; omega)
        have hown3 : ∀ x ∈ xs ++ [((nm, fs), a1, c1)], Tw.own (w.heap.size + 3) (w2.setCell ⟨w.heap.size + 1 + 1, 0, none⟩ (.slice (some ⟨g2, 0, none⟩) (k + 1) cap2)) x := fun x hx => owns_set (hown2 x hx) ⟨w.heap.size + 1 + 1, 0, none⟩ (.slice (some ⟨g2, 0, none⟩) (k + 1) cap2) (by simp only; omega)
        have bAll := (bw.trans (q1.mono bw.size)).trans (hlow.mono (by omega))
        replace ho2' := hide ho2'
        replace hown3 := hide hown3
        have hs2 := hlow.size
        clear hown2 hkeep ho2 hg2 hblk hne hrow1
        refine hK _ _ (.inr cG) ?_
        clear hK K
        obtain ⟨hq0, hq1⟩ := cG.2.1.one
        refine wpAnyZ_reads 18 cG (by kernel_rfl) (by kernel_rfl) (by kernel_rfl) (by kernel_rfl) (fun d _ _ _ _ h => by cases d <;> exact h) (fun oi ho K hK => ?_)
        simp only [List.getElem?_toArray, List.getElem?_cons_succ, List.getElem?_cons_zero, Option.some.injEq] at ho
        subst ho
        rw [if_pos (by kernel_rfl)]
        refine ⟨.pointer (some ⟨w.heap.size + 1 + 1, 0, none⟩), fun w' hw' => ?_, hK _ ?_⟩
        · clear hw'
          go_simp
        clear hK K
        refine wpAnyZ_calls 19 (by kernel_rfl) (fun oi ho K hK => ?_)
        simp only [List.getElem?_toArray, List.getElem?_cons_succ, List.getElem?_cons_zero, Option.some.injEq] at ho
        subst ho
        go_simp
        refine hK _ _ (.inl rfl) ?_
        clear hK K
        refine wpAnyZ_done (by kernel_rfl) ?_ _
        go_wp2_with fail
        refine ⟨⟨k + 1, xs ++ [((nm, fs), a1, c1)], _, by omega, by go_num, hide ⟨?_, unhide hown3⟩, hide ?_, cG.2.1.set 0 _, cG.1.other _ _ (by simp only; omega), y32.other _ _ (by simp only; omega), bAll.setCell (p := ⟨w.heap.size + 1 + 1, 0, none⟩) (by simp only; omega) _, by simp; omega, hap1⟩, by simp [intOf]; omega⟩
        · rw [unhide hsucc, List.map_append, (unhide hxs).1]; rfl
        · have e2 : newsT (xs ++ [((nm, fs), a1, c1)]) = newsT xs ++ [.string nm.1, .slice a1 fs.length c1] := by simp [newsT]
          rw [e2]
          exact unhide ho2'
      | none =>
        obtain rfl : fs = [] := by
          rcases hF with h | ⟨bf, of', e, _⟩
          · exact h
          · cases e
        refine wpAnyZ_calls 14 (by kernel_rfl) (fun oi ho K hK => ?_)
        simp only [List.getElem?_toArray, List.getElem?_cons_succ, List.getElem?_cons_zero, Option.some.injEq] at ho
        subst ho
        refine step_none wr.drew (by rfl) (.const (.slice none 0 0)) (.tmp 25) 49 (by rfl) 56 j0 (.agg #[.string ⟨#[]⟩, .int .i64 0]) Tryd.underlying49 hj hy0 c' ?q1 ?q2 ?_
        case q1 => go_simp
        case q2 => go_simp
        have b1 : Below wr.drew.heap.size wr.drew wr.drew := Below.refl _ _
        have cE := cD
        have ho1 := hide (World.ownsRow_nil wr.drew (w.heap.size + 3) 56 2)
        refine hK _ _ (.inr cE) ?_
        clear hK K
        refine wpAnyZ_reads 15 cE (by kernel_rfl) (by kernel_rfl) (by kernel_rfl) (by kernel_rfl) (fun d _ _ _ _ h => by cases d <;> exact h) (fun oi ho K hK => ?_)
        simp only [List.getElem?_toArray, List.getElem?_cons_succ, List.getElem?_cons_zero, Option.some.injEq] at ho
        subst ho
        rw [if_pos (by kernel_rfl)]
        refine ⟨.agg #[.string nm.1, .slice none 0 0], fun w' hw' => ?_, hK _ ?_⟩
        · clear hw'
          go_simp
        clear hK K
        have bF : Below wr.drew.heap.size wr.drew (wr.drew.alloc (.cells #[.string nm.1, .slice none 0 0] 51)) := (Below.refl _ _).alloc (Nat.le_refl _) _
        have cF : Box (wr.drew.alloc (.cells #[.string nm.1, .slice none 0 0] 51)) w.heap.size 24 #[.slice (some ⟨b, off, none⟩) ts.length cap] ∧ Box (wr.drew.alloc (.cells #[.string nm.1, .slice none 0 0] 51)) (w.heap.size + 1 + 1) 24 #[.slice av nv cv] ∧ (wr.drew.alloc (.cells #[.string nm.1, .slice none 0 0] 51)).cell? ⟨b, off + k * 2, none⟩ = some (.string nm.1) ∧ (wr.drew.alloc (.cells #[.string nm.1, .slice none 0 0] 51)).cell? ⟨b, off + k * 2 + 1, none⟩ = some (.slice none 0 c') := ⟨cE.1.on bF cE.1.lt, cE.2.1.on bF cE.2.1.lt, (bF.cell (p := ⟨b, off + k * 2, none⟩) (cell_lt cE.2.2.1)).trans cE.2.2.1, (bF.cell (p := ⟨b, off + k * 2 + 1, none⟩) (cell_lt cE.2.2.2)).trans cE.2.2.2⟩
        refine wpAnyZ_calls 16 (by kernel_rfl) (fun oi ho K hK => ?_)
        simp only [List.getElem?_toArray, List.getElem?_cons_succ, List.getElem?_cons_zero, Option.some.injEq] at ho
        subst ho
        go_simp
        refine hK _ _ (.inr cF) ?_
        clear hK K
        have q1 := (bD.trans (b1.mono bD.size)).trans (bF.mono (bD.trans (b1.mono bD.size)).size)
        have hrow1 := owns_below (unhide hrow) q1
        have hs1 := q1.size
        have hw1 := bF.size
        refine wpAnyZ_calls 17 (by kernel_rfl) (fun oi ho K hK => ?_)
        simp only [List.getElem?_toArray, List.getElem?_cons_succ, List.getElem?_cons_zero, Option.some.injEq] at ho
        subst ho
        refine step_own (wr.drew.alloc (.cells #[.string nm.1, .slice none 0 0] 51)) (by rfl) (.tmp 13) (.tmp 28) 22 (by rfl) (w.heap.size + 3) 51 i0 (.agg #[.string ⟨#[]⟩, .slice none 0 0]) 2 40 Tryd.underlying22 hi hz0 hz1 hz2 (by rfl) (by decide) (.slice av nv cv) k (newsT xs) ?q1 hrow1 ⟨wr.drew.heap.size, 0, none⟩ 1 1 [.string nm.1, .slice none 0 0] ?q2 (by rfl) (cell_two_new _ _ _ _) (by simp [Value.oneCell']) (by unfold maxLen; omega) (by omega) (by omega) ?_
        case q1 => go_simp
        case q2 => go_simp
        intro v2 w2 ho2 hg2 _
        have hne : ∀ g, (Value.slice av nv cv).ownBlock = some g → w.heap.size + 3 ≤ g ∧ ∃ cur, (wr.drew.alloc (.cells #[.string nm.1, .slice none 0 0] 51)).heap[g]? = some (.cells cur 51 (0, 0)) := fun g hg => owns_lt hrow1 hg
        have hblk : ∀ q, q < (wr.drew.alloc (.cells #[.string nm.1, .slice none 0 0] 51)).heap.size → (Value.slice av nv cv).ownBlock ≠ some q → w2.heap[q]? = (wr.drew.alloc (.cells #[.string nm.1, .slice none 0 0] 51)).heap[q]? := fun q hq hn => hg2.block q hq (fun e => hn e.symm)
        have hlow : Below (w.heap.size + 3) (wr.drew.alloc (.cells #[.string nm.1, .slice none 0 0] 51)) w2 := (Below.refl _ _).grown hg2 (by omega) (fun q e => (hne q e).1)
        have cG : Box w2 w.heap.size 24 #[.slice (some ⟨b, off, none⟩) ts.length cap] ∧ Box w2 (w.heap.size + 1 + 1) 24 #[.slice av nv cv] ∧ w2.cell? ⟨b, off + k * 2, none⟩ = some (.string nm.1) ∧ w2.cell? ⟨b, off + k * 2 + 1, none⟩ = some (.slice none 0 c') := ⟨cF.1.on hlow (by omega), cF.2.1.on hlow (by omega), (hlow.cell (p := ⟨b, off + k * 2, none⟩) (by simp only; omega)).trans cF.2.2.1, (hlow.cell (p := ⟨b, off + k * 2 + 1, none⟩) (by simp only; omega)).trans cF.2.2.2⟩
        have hkeep : ∀ {n : Nat} {u : Value} {ys : List Value}, (wr.drew.alloc (.cells #[.string nm.1, .slice none 0 0] 51)).ownsRow (w.heap.size + 3) 56 2 u n ys → w2.ownsRow (w.heap.size + 3) 56 2 u n ys := fun h => owns_keep h fun g hg hl => hblk g hl (fun e => by
          obtain ⟨_, cur, h1⟩ := hne g e
          obtain ⟨_, cur', h2⟩ := owns_lt h hg
          rw [h1] at h2; cases h2)
        have hown2 : ∀ x ∈ xs ++ [((nm, []), none, 0)], Tw.own (w.heap.size + 3) w2 x := fun x hx => by
          rcases List.mem_append.1 hx with hx | hx
          · exact hkeep (owns_below ((unhide hxs).2 x hx) q1)
          · simp only [List.mem_singleton] at hx
            subst hx
            exact hkeep (owns_below (unhide ho1) bF)
        obtain ⟨g2, cap2, rfl⟩ := ownsRow_succ ho2
        have y32 := y2.on q1 y2.lt
        replace y32 := y32.on hlow (by omega)
        have ho2' := owns_set ho2 ⟨w.heap.size + 1 + 1, 0, none⟩ (.slice (some ⟨g2, 0, none⟩) (k + 1) cap2) (by simp only; omega)
        have hown3 : ∀ x ∈ xs ++ [((nm, []), none, 0)], Tw.own (w.heap.size + 3) (w2.setCell ⟨w.heap.size + 1 + 1, 0, none⟩ (.slice (some ⟨g2, 0, none⟩) (k + 1) cap2)) x := fun x hx => owns_set (hown2 x hx) ⟨w.heap.size + 1 + 1, 0, none⟩ (.slice (some ⟨g2, 0, none⟩) (k + 1) cap2) (by simp only; omega)
        have bAll := (bw.trans (q1.mono bw.size)).trans (hlow.mono (by omega))
        replace ho2' := hide ho2'
        replace hown3 := hide hown3
        have hs2 := hlow.size
        clear hown2 hkeep ho2 hg2 hblk hne hrow1
        refine hK _ _ (.inr cG) ?_
        clear hK K
        obtain ⟨hq0, hq1⟩ := cG.2.1.one
        refine wpAnyZ_reads 18 cG (by kernel_rfl) (by kernel_rfl) (by kernel_rfl) (by kernel_rfl) (fun d _ _ _ _ h => by cases d <;> exact h) (fun oi ho K hK => ?_)
        simp only [List.getElem?_toArray, List.getElem?_cons_succ, List.getElem?_cons_zero, Option.some.injEq] at ho
        subst ho
        rw [if_pos (by kernel_rfl)]
        refine ⟨.pointer (some ⟨w.heap.size + 1 + 1, 0, none⟩), fun w' hw' => ?_, hK _ ?_⟩
        · clear hw'
          go_simp
        clear hK K
        refine wpAnyZ_calls 19 (by kernel_rfl) (fun oi ho K hK => ?_)
        simp only [List.getElem?_toArray, List.getElem?_cons_succ, List.getElem?_cons_zero, Option.some.injEq] at ho
        subst ho
        go_simp
        refine hK _ _ (.inl rfl) ?_
        clear hK K
        refine wpAnyZ_done (by kernel_rfl) ?_ _
        go_wp2_with fail
        refine ⟨⟨k + 1, xs ++ [((nm, []), none, 0)], _, by omega, by go_num, hide ⟨?_, unhide hown3⟩, hide ?_, cG.2.1.set 0 _, cG.1.other _ _ (by simp only; omega), y32.other _ _ (by simp only; omega), bAll.setCell (p := ⟨w.heap.size + 1 + 1, 0, none⟩) (by simp only; omega) _, by simp; omega, hide (apart_snoc (unhide hap) (unhide hxs).2 (.inl rfl))⟩, by simp [intOf]; omega⟩
        · rw [unhide hsucc, List.map_append, (unhide hxs).1]; rfl
        · have e2 : newsT (xs ++ [((nm, []), none, 0)]) = newsT xs ++ [.string nm.1, .slice none 0 0] := by simp [newsT]
          rw [e2]
          exact unhide ho2'
    · have hke : k = ts.length := by omega
      have hall := hide (show xs.map (·.1) = ts by rw [(unhide hxs).1, hke, List.take_length])
      have hlen := hide (show xs.length = k by have := congrArg List.length (unhide hxs).1; simp at this; omega)
      have hvs : ∃ av nv cv, v = .slice av nv cv := by
        rcases (unhide hrow).2 with ⟨h, _⟩ | ⟨g, cc, _, h, _⟩ <;> exact ⟨_, _, _, h⟩
      obtain ⟨av, nv, cv, rfl⟩ := hvs
      obtain ⟨hq0, -⟩ := y3.one
      obtain ⟨hp0, hp1⟩ := y2.one
      clear hke
      go_wp2_with fail
      have u2 := (y2.set 0 (.slice av nv cv)).one.1
      refine bodyPost_ret (v := .agg #[.slice av nv cv]) (by simp [results, Tryd.results23, go_sem, u2]) rfl ⟨_, xs, rfl, ⟨unhide hall, fun x hx => ?_⟩, ?_, bw.setCell (p := ⟨w.heap.size + 1, 0, none⟩) (by simp only; omega) _, unhide hap⟩
      · exact owns_base (by omega) (owns_set ((unhide hxs).2 x hx) ⟨w.heap.size + 1, 0, none⟩ (.slice av nv cv) (by simp only; omega))
      · rw [unhide hlen]
        exact owns_base (by omega) (owns_set (unhide hrow) ⟨w.heap.size + 1, 0, none⟩ (.slice av nv cv) (by simp only; omega))

end Go.Proofs.YtnfmhcddfjgcmaaDoor
