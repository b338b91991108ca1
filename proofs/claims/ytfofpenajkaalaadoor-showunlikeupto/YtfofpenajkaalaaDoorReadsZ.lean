/-
  A region that draws its order and whose last operation (z) may leave the class of worlds in which the others read: what only reads may be taken first, if the last one waits for it. On the text Reads.
-/
import Derived.Test.YtfofpenajkaalaaDoorReadsTwo
import Derived.Test.YtfofpenajkaalaaDoorIter
namespace Go.Proofs.YtfofpenajkaalaaDoor
open Go.RowKit

section
variable {P : Program} {ops : Array Oper} {md : Region.Mode} {C : World → Prop} {Q : Exit → Act → World → Prop} {z : Nat}

/-- Whatever order is picked from here on, each step but z ending in a world of the class. -/
def wpAnyZ (P : Program) (md : Region.Mode) (ops : Array Oper) (z : Nat) (C : World → Prop) (Q : Exit → Act → World → Prop) : Nat → Array Bool → Act → World → Prop
  | 0, listed, a, w => Region.ready md ops listed = [] ∧ Q .normal a w
  | fuel + 1, listed, a, w =>
    (Region.ready md ops listed = [] → Q .normal a w) ∧
    ∀ i ∈ Region.ready md ops listed, wpOp P ops Q i (fun a' w' => (i = z ∨ C w') ∧ wpAnyZ P md ops z C Q fuel (listed.setIfInBounds i true) a' w') a w

theorem wpAny_of_Z : ∀ (fuel : Nat) (listed : Array Bool) (a : Act) (w : World), wpAnyZ P md ops z C Q fuel listed a w → wpAny P md ops Q fuel listed a w
  | 0, _, _, _, h => h
  | fuel + 1, _, _, _, h => ⟨h.1, fun i hi => wpOp_mono (fun a' w' h' => wpAny_of_Z fuel _ a' w' h'.2) (h.2 i hi)⟩

/-- The operation z waits for i. -/
def waits (md : Region.Mode) (ops : Array Oper) (z i : Nat) : Bool := ops[z]?.any fun oz => oz.after.toList.any fun e => Region.binds md e && e.on == i
theorem waits_spec {i : Nat} (h : waits md ops z i = true) {listed : Array Bool} (hi : listed.getD i true = false) : z ∉ Region.ready md ops listed := by
  intro hz
  obtain ⟨_, oz, hoz, hdone⟩ := mem_ready.1 hz
  unfold waits at h
  rw [hoz] at h
  simp only [Option.any_some, List.any_eq_true, Bool.and_eq_true, beq_iff_eq] at h
  obtain ⟨e, he, hb, rfl⟩ := h
  have hd := hdone e (by simpa using he) hb
  rw [Array.getD_eq_getD_getElem?] at hd hi
  cases hq : listed[e.on]? with
  | none => rw [hq] at hd; cases hd
  | some b => rw [hq] at hd hi; simp only [Option.getD_some] at hd hi; rw [hd] at hi; cases hi

theorem wpAnyZ_first {i : Nat} {oi : Oper} {v : Value} (hi : ops[i]? = some oi) (hsel : ∀ (j : Nat) (o : Oper) cs b, ops[j]? = some o → o.op ≠ .select cs b)
    (hQ : ∀ c a w, Q (.panic c) (a.put oi.dst v) w → Q (.panic c) a w) (hwz : waits md ops z i = true) (fuel : Nat) (listed : Array Bool) (a : Act) (w : World) (hw : C w)
    (hfree : ∀ j oj, ops[j]? = some oj → j ≠ i → listed.getD j true = false → (∀ e ∈ oj.after, Region.binds md e = true → e.on ≠ i) → oi.apart ops oj = true)
    (hr : i ∈ Region.ready md ops listed) (hy : ReadsC P ops C oi v a) (H : wpAnyZ P md ops z C Q fuel (listed.setIfInBounds i true) (a.put oi.dst v) w) : wpAnyZ P md ops z C Q (fuel + 1) listed a w := by
  induction fuel generalizing listed a w with
  | zero =>
    refine ⟨fun h => absurd (h ▸ hr) List.not_mem_nil, fun j hj => ?_⟩
    rcases Decidable.em (j = i) with rfl | hji
    · exact wpOp_mono (fun a' w' h => ⟨.inr h.1, h.2⟩) (hy.wpOp hi hw H)
    · exact absurd (H.1 ▸ ready_mono hj hji) List.not_mem_nil
  | succ fuel ih =>
    refine ⟨fun h => absurd (h ▸ hr) List.not_mem_nil, fun j hj => ?_⟩
    rcases Decidable.em (j = i) with rfl | hji
    · exact wpOp_mono (fun a' w' h => ⟨.inr h.1, h.2⟩) (hy.wpOp hi hw H)
    obtain ⟨hun, oj, hoj, hdone⟩ := mem_ready.1 hj
    have hunI : listed.getD i true = false := (mem_ready.1 hr).1
    have hjz : j ≠ z := fun e => waits_spec hwz hunI (e ▸ hj)
    have hwait : ∀ e ∈ oj.after, Region.binds md e = true → e.on ≠ i := by
      rintro e he hb rfl
      have hd := hdone e he hb
      rw [Array.getD_eq_getD_getElem?] at hd hunI
      cases hq : listed[e.on]? with
      | none => rw [hq] at hd; cases hd
      | some b => rw [hq] at hd hunI; simp only [Option.getD_some] at hd hunI; rw [hd] at hunI; cases hunI
    have hap := hfree j oj hoj hji hun hwait
    have hstep := wpOp_behind hoj hap (fun cs b => hsel i oi cs b hi) (fun cs b => hsel j oj cs b hoj) hQ hy (H.2 j (ready_mono hj hji))
    refine wpOp_mono (fun a' w' hh => ?_) hstep
    have hC : C w' := hh.2.1.resolve_left hjz
    refine ⟨.inr hC, ih _ a' w' hC (fun k ok hk hki hkun hkno => hfree k ok hk hki ?_ hkno) (ready_mono hr (Ne.symm hji)) hh.1 ?_⟩
    · rcases Decidable.em (j = k) with rfl | hjk
      · exact hun
      · exact (getD_set_ne true hjk).symm.trans hkun
    · have := hh.2.2
      rwa [Array.setIfInBounds_comm _ _ (Ne.symm hji)] at this

theorem wpAnyZ_reads (i : Nat) {fuel : Nat} {listed : Array Bool} {a : Act} {w : World} (hw : C w)
    (hs : Region.noSelect ops = true) (hf : Region.free md ops listed i = true) (hr : (Region.ready md ops listed).contains i = true) (hwz : waits md ops z i = true)
    (hQ : ∀ d v c a w, Q (.panic c) (a.put d v) w → Q (.panic c) a w)
    (h : ∀ oi, ops[i]? = some oi → ∀ K : Act → Prop, (∀ a', wpAnyZ P md ops z C Q fuel (listed.setIfInBounds i true) a' w → K a') → if Region.wanted oi (yielded ops a.tmps) then readIn P oi a C K else K (a.put oi.dst undef)) : wpAnyZ P md ops z C Q (fuel + 1) listed a w := by
  have hm : i ∈ Region.ready md ops listed := by simpa using hr
  obtain ⟨_, oi, hi, _⟩ := mem_ready.1 hm
  have h := h oi hi _ (fun _ h => h)
  by_cases hwt : Region.wanted oi (yielded ops a.tmps) = true
  · rw [if_pos hwt] at h
    obtain ⟨v, h1, h2⟩ := h
    exact wpAnyZ_first hi (Region.noSelect_spec hs) (hQ oi.dst v) hwz fuel listed a w hw (Region.free_spec hi hf) hm (.inl ⟨hwt, h1⟩) h2
  · rw [if_neg hwt] at h
    exact wpAnyZ_first hi (Region.noSelect_spec hs) (hQ oi.dst undef) hwz fuel listed a w hw (Region.free_spec hi hf) hm (.inr ⟨by simpa using hwt, rfl⟩) h

theorem wpAnyZ_calls (i : Nat) {fuel : Nat} {listed : Array Bool} {a : Act} {w : World} (hr : Region.ready md ops listed = [i])
    (h : ∀ oi, ops[i]? = some oi → ∀ K : Act → World → Prop, (∀ a' w', (i = z ∨ C w') → wpAnyZ P md ops z C Q fuel (listed.setIfInBounds i true) a' w' → K a' w') → if Region.wanted oi (yielded ops a.tmps) then Oper.wp P oi a w K Q else K (a.put oi.dst undef) w) : wpAnyZ P md ops z C Q (fuel + 1) listed a w := by
  have hm : i ∈ Region.ready md ops listed := by rw [hr]; simp
  obtain ⟨_, oi, hi, _⟩ := mem_ready.1 hm
  refine ⟨fun h0 => (by rw [hr] at h0; cases h0), fun j hj => ?_⟩
  rw [hr, List.mem_singleton] at hj
  subst hj
  have h := h oi hi (fun a' w' => (j = z ∨ C w') ∧ wpAnyZ P md ops z C Q fuel (listed.setIfInBounds j true) a' w') (fun a' w' h1 h2 => ⟨h1, h2⟩)
  unfold wpOp
  simp only [hi]
  by_cases hwt : Region.wanted oi (yielded ops a.tmps) = true
  · rw [if_pos hwt] at h ⊢; exact .inl h
  · rw [if_neg hwt] at h ⊢; exact h

theorem wpAnyZ_done {listed : Array Bool} {a : Act} {w : World} (hr : Region.ready md ops listed = []) (h : Q .normal a w) (fuel : Nat) : wpAnyZ P md ops z C Q fuel listed a w := by
  cases fuel with
  | zero => exact ⟨hr, h⟩
  | succ n => exact ⟨fun _ => h, by rw [hr]; simp⟩

/-- An append, as one step of a region that draws its order: nothing may be appended, too. -/
theorem step_own {P : Program} (w : World) {ops : Array Oper} {o : Oper} {a : Act} {K : Act → World → Prop} {Q : Exit → Act → World → Prop} {E : Prop} (hgd : o.guard = none) (s x : Operand) (t : TypeId)
    (ho : o.op = .call { callee := .builtin .append, args := #[s, x], argTypes := #[t, t] })
    (base : Nat) (e : TypeId) (i : TypeInfo) (z : Value) (size bytes : Nat) (ht : P.underlying t = some (.slice e)) (hi : P.info? e = some i) (hz : i.zero = some z)
    (hsize : i.size = size) (hby : i.bytes = bytes) (hzs : z.cells.size = size) (hsz : 0 < size)
    (v : Value) (n : Nat) (xs : List Value) (hs : a.eval s = v) (hown : w.ownsRow base e size v n xs)
    (ad : Addr) (m c : Nat) (news : List Value) (hx : a.eval x = .slice (some ad) m c) (hl : news.length = m * size) (hnews : ∀ j u, news[j]? = some u → w.cell? (ad.add j) = some u) (h1 : ∀ u ∈ news, u.oneCell' = true)
    (h63 : n + m ≤ maxLen) (hbytes : (n + m) * bytes ≤ 140737488355328) (hbase : base ≤ w.heap.size)
    (h : ∀ v' w', w'.ownsRow base e size v' (n + m) (xs ++ news) → w.grownBy w' v.ownBlock → (v'.ownBlock = v.ownBlock ∨ v'.ownBlock = some w.heap.size) → K (a.put o.dst v') w') :
    if Region.wanted o (yielded ops a.tmps) = true then Oper.wp P o a w K Q else E := by
  have hw : Region.wanted o (yielded ops a.tmps) = true := by simp [Region.wanted, hgd]
  rw [if_pos hw]
  obtain ⟨v', w', hr, h2, h3, _, h5⟩ := run_append_own_at (P := P) w base t o.type e i z size bytes ht hi hz hsize hby hzs hsz v n xs hown ad m c news hl hnews h1 h63 hbytes hbase
  unfold Oper.wp execOp
  simp only [ho, resolve, invoke, builtin, Sem.run_bind, Sem.run_pure, Result.andThen_ok, List.map_toArray, List.map_cons, List.map_nil, hs, hx, hr]
  exact h v' w' h2 h3 h5

end
/-- Two operations are ready at once: both are walked. -/
theorem wpAnyZ_two {P : Program} {ops : Array Oper} {md : Region.Mode} {C : World → Prop} {Q : Exit → Act → World → Prop} {z : Nat} (i j : Nat) {fuel : Nat} {listed : Array Bool} {a : Act} {w : World} (hr : Region.ready md ops listed = [i, j])
    (hi : ∀ oi, ops[i]? = some oi → ∀ K : Act → World → Prop, (∀ a' w', (i = z ∨ C w') → wpAnyZ P md ops z C Q fuel (listed.setIfInBounds i true) a' w' → K a' w') → if Region.wanted oi (yielded ops a.tmps) then Oper.wp P oi a w K Q else K (a.put oi.dst undef) w)
    (hj : ∀ oi, ops[j]? = some oi → ∀ K : Act → World → Prop, (∀ a' w', (j = z ∨ C w') → wpAnyZ P md ops z C Q fuel (listed.setIfInBounds j true) a' w' → K a' w') → if Region.wanted oi (yielded ops a.tmps) then Oper.wp P oi a w K Q else K (a.put oi.dst undef) w) : wpAnyZ P md ops z C Q (fuel + 1) listed a w := by
  refine ⟨fun h0 => (by rw [hr] at h0; cases h0), fun k hk => ?_⟩
  have hm := hk
  rw [hr] at hk
  obtain ⟨_, oi, ho, _⟩ := mem_ready.1 hm
  have step : ∀ (h : ∀ oi, ops[k]? = some oi → ∀ K : Act → World → Prop, (∀ a' w', (k = z ∨ C w') → wpAnyZ P md ops z C Q fuel (listed.setIfInBounds k true) a' w' → K a' w') → if Region.wanted oi (yielded ops a.tmps) then Oper.wp P oi a w K Q else K (a.put oi.dst undef) w), wpOp P ops Q k (fun a' w' => (k = z ∨ C w') ∧ wpAnyZ P md ops z C Q fuel (listed.setIfInBounds k true) a' w') a w := fun h => by
    have h := h oi ho (fun a' w' => (k = z ∨ C w') ∧ wpAnyZ P md ops z C Q fuel (listed.setIfInBounds k true) a' w') (fun a' w' h1 h2 => ⟨h1, h2⟩)
    unfold wpOp
    simp only [ho]
    by_cases hwt : Region.wanted oi (yielded ops a.tmps) = true
    · rw [if_pos hwt] at h ⊢; exact .inl h
    · rw [if_neg hwt] at h ⊢; exact h
  simp only [List.mem_cons, List.not_mem_nil, or_false] at hk
  rcases hk with rfl | rfl
  · exact step hi
  · exact step hj


/-- What is appended to, as full as it may be: elements that lie somewhere, or nothing. -/
def Full (w : World) (a : Option Addr) (n size : Nat) (olds : List Value) : Prop := olds.length = n * size ∧ ((∃ b, a = some b ∧ ∀ j u, olds[j]? = some u → w.cell? (b.add j) = some u) ∨ (a = none ∧ n = 0))
theorem Full.on {w w' : World} {a : Option Addr} {n size : Nat} {olds : List Value} (h : Full w a n size olds) (hb : Below w.heap.size w w') (hlt : ∀ (p : Addr) v, w.cell? p = some v → p.block < w.heap.size) : Full w' a n size olds := by
  refine ⟨h.1, ?_⟩
  rcases h.2 with ⟨b, e, hc⟩ | h
  · exact .inl ⟨b, e, fun j u hu => (hb.cell (hlt _ _ (hc j u hu))).trans (hc j u hu)⟩
  · exact .inr h
/-- Some more behind a slice that is full: a new row, as one step of a region that draws its order. -/
theorem step_full {P : Program} (w : World) {ops : Array Oper} {o : Oper} {a : Act} {K : Act → World → Prop} {Q : Exit → Act → World → Prop} {E : Prop} (hgd : o.guard = none) (s x : Operand) (t : TypeId)
    (ho : o.op = .call { callee := .builtin .append, args := #[s, x], argTypes := #[t, t] })
    (e : TypeId) (i : TypeInfo) (z : Value) (size bytes : Nat) (ht : P.underlying t = some (.slice e)) (hi : P.info? e = some i) (hz : i.zero = some z)
    (hsize : i.size = size) (hby : i.bytes = bytes) (hzs : z.cells.size = size)
    (xa : Option Addr) (n : Nat) (olds : List Value) (hs : a.eval s = .slice xa n n) (hf : Full w xa n size olds)
    (ad : Addr) (m c : Nat) (news : List Value) (hx : a.eval x = .slice (some ad) m c) (hl : news.length = m * size) (hnews : ∀ j u, news[j]? = some u → w.cell? (ad.add j) = some u) (hm : 0 < m)
    (h63 : n + m ≤ maxLen) (hbytes : (n + m) * bytes ≤ 140737488355328)
    (h : ∀ v' w', w'.ownsRow w.heap.size e size v' (n + m) (olds ++ news) → Below w.heap.size w w' → K (a.put o.dst v') w') :
    if Region.wanted o (yielded ops a.tmps) = true then Oper.wp P o a w K Q else E := by
  have hw : Region.wanted o (yielded ops a.tmps) = true := by simp [Region.wanted, hgd]
  rw [if_pos hw]
  subst hsize
  subst hby
  have hsmall : n + m ≤ 9223372036854775807 := by simp only [maxLen] at h63; omega
  have hlen : (olds ++ news).length = (n + m) * i.size := by rw [List.length_append, hf.1, hl, Nat.add_mul]
  have grown : ∀ old, (w.drew.alloc (.cells (olds.toArray ++ news.toArray ++ Builtin.zeroCells z.cells (grownCap w (n + m) old e - (n + m))) e)).ownsRow w.heap.size e i.size (.slice (some ⟨w.heap.size, 0, none⟩) (n + m) (grownCap w (n + m) old e)) (n + m) (olds ++ news) ∧ Below w.heap.size w (w.drew.alloc (.cells (olds.toArray ++ news.toArray ++ Builtin.zeroCells z.cells (grownCap w (n + m) old e - (n + m))) e)) := by
    intro old
    have hge := grownCap_ge w (n + m) old e
    have hcm : grownCap w (n + m) old e ≤ maxLen := grownCap_le_maxLen w (n + m) old e h63
    refine ⟨⟨hlen, .inr ⟨w.heap.size, _, _, rfl, Nat.le_refl _, World.alloc_heap_new w.drew _, hge, hcm, ?_, ?_⟩⟩, (Below.refl _ _).drew.alloc (Nat.le_refl _) _⟩
    · simp only [Array.size_append, List.size_toArray, size_zeroCells, hzs, hf.1, hl, ← Nat.add_mul]
      congr 1
      omega
    · simp only [Array.toList_append, List.append_assoc]
      rw [← List.append_assoc, ← hlen]
      exact List.take_left
  rcases hf.2 with ⟨b, rfl, hc⟩ | ⟨rfl, rfl⟩
  · have hr := run_append_grow (P := P) w t o.type e i z ht hi hz b n n olds hf.1 hc ad m c news hl hnews (by omega) (by omega) (growslice_fits (by omega) hbytes)
    unfold Oper.wp execOp
    simp only [ho, resolve, invoke, builtin, Sem.run_bind, Sem.run_pure, Result.andThen_ok, List.map_toArray, List.map_cons, List.map_nil, hs, hx, hr]
    exact h _ _ (grown n).1 (grown n).2
  · have ho0 : olds = [] := List.eq_nil_of_length_eq_zero (by simpa using hf.1)
    subst ho0
    have hr := run_append_nil (P := P) w t o.type e i z ht hi hz ad m c news hl hnews hm (by omega) (by have hb := hbytes; simp only [Nat.zero_add] at hb; omega)
    have hgr := grown 0
    simp only [Nat.zero_add, List.nil_append, Array.empty_append] at hgr h
    unfold Oper.wp execOp
    simp only [ho, resolve, invoke, builtin, Sem.run_bind, Sem.run_pure, Result.andThen_ok, List.map_toArray, List.map_cons, List.map_nil, hs, hx, hr]
    exact h _ _ hgr.1 hgr.2

end Go.Proofs.YtfofpenajkaalaaDoor
