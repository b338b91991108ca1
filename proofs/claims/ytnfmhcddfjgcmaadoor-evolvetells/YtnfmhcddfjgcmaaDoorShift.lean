/-
  One element taken out of a row that a call owns, by appending what stands behind it to what stands ahead of it, in the row's own memory.
-/
import Derived.Test.YtnfmhcddfjgcmaaDoorCopy
import Derived.Test.YtnfmhcddfjgcmaaDoorReadsZ
namespace Go.Proofs.YtnfmhcddfjgcmaaDoor
open Go.RowKit Go.Shelf

theorem run_append_shift {P : Program} (w : World) (base : Nat) (t ty e : TypeId) (i : TypeInfo) (size : Nat) (ht : P.underlying t = some (.slice e)) (hi : P.info? e = some i) (hsize : i.size = size) (g n cap : Nat) (xs : List Value)
    (h : w.ownsRow base e size (.slice (some ⟨g, 0, none⟩) n cap) n xs) (k : Nat) (hk : k < n) (ad : Addr) (had : ad = ⟨g, (k + 1) * size, none⟩ ∨ n = k + 1) (c2 : Nat) (h1 : ∀ u ∈ xs, u.oneCell' = true) :
    ∃ w', (Builtin.append_ #[t, t] ty #[.slice (some ⟨g, 0, none⟩) k cap, .slice (some ad) (n - (k + 1)) c2]).run P w = .ok (.slice (some ⟨g, 0, none⟩) (n - 1) cap) w' ∧
      w'.ownsRow base e size (.slice (some ⟨g, 0, none⟩) (n - 1) cap) (n - 1) (xs.take (k * size) ++ xs.drop ((k + 1) * size)) ∧ w.grownBy w' (some g) := by
  subst hsize
  have hcells := h.cells (g := g) rfl
  obtain ⟨hxl, h2⟩ := h
  rcases h2 with ⟨h0, _⟩ | ⟨g', cap', cur, h0, hb, hg, hnc, hcm, hcs, htake⟩
  · cases h0
  simp only [Value.slice.injEq, Option.some.injEq, Addr.mk.injEq, and_true, true_and] at h0
  obtain ⟨rfl, rfl⟩ := h0
  have hmul : (k + 1) * i.size ≤ n * i.size := Nat.mul_le_mul_right _ hk
  have hmul1 : (n - (k + 1)) * i.size = n * i.size - (k + 1) * i.size := Nat.sub_mul _ _ _
  have hmul2 : (n - 1) * i.size = n * i.size - 1 * i.size := Nat.sub_mul _ _ _
  have hk1 : (k + 1) * i.size = k * i.size + i.size := by rw [Nat.add_mul, Nat.one_mul]
  have hncs : n * i.size ≤ cap * i.size := Nat.mul_le_mul_right _ hnc
  have hnl : (xs.drop ((k + 1) * i.size)).length = (n - (k + 1)) * i.size := by rw [List.length_drop, hxl, hmul1]
  have hroom := run_append_room (P := P) w t ty e i ht hi g k cap cur hg ad (n - (k + 1)) c2 (xs.drop ((k + 1) * i.size)) hnl (fun j u hu => by
    rcases had with rfl | rfl
    case inr => rw [List.drop_of_length_le (by omega)] at hu; simp at hu
    rw [List.getElem?_drop] at hu
    have := hcells _ u hu
    rw [WideShapes.add_plain] at this ⊢
    rw [Nat.zero_add] at this
    exact this) (fun u hu => h1 u (List.mem_of_mem_drop hu)) (by omega) (by rw [hnl, hcs]; omega)
  rw [show k + (n - (k + 1)) = n - 1 by omega] at hroom
  have hcl : cur.toList.length = cap * i.size := by simpa using hcs
  have hheap := setRow_heap w g cur (cur.toList.take (k * i.size) ++ xs.drop ((k + 1) * i.size) ++ cur.toList.drop (k * i.size + (xs.drop ((k + 1) * i.size)).length)).toArray e (0, 0) hg
  have e1 : cur.toList.take (k * i.size) = xs.take (k * i.size) := by rw [← htake, List.take_take]; congr 1; omega
  refine ⟨_, hroom, ⟨?_, .inr ⟨g, cap, _, rfl, hb, hheap, by omega, hcm, ?_, ?_⟩⟩, ⟨rfl, rfl, rfl, by simp, fun q _ hq => setRow_other _ _ _ _ (fun e => hq (by rw [e]))⟩⟩
  · rw [List.length_append, List.length_take, hnl, hxl]; omega
  · simp only [List.size_toArray, List.length_append, List.length_take, List.length_drop, hcl, hxl]; omega
  · rw [List.toList_toArray, e1, List.take_append_of_le_length (by rw [List.length_append, List.length_take, hnl, hxl]; omega), List.take_of_length_le (by rw [List.length_append, List.length_take, hnl, hxl]; omega)]

/-- So, as one step of a region that draws its order. -/
theorem step_shift {P : Program} (w : World) {ops : Array Oper} {o : Oper} {a : Act} {K : Act → World → Prop} {Q : Exit → Act → World → Prop} {E : Prop} (hgd : o.guard = none) (s x : Operand) (t : TypeId)
    (ho : o.op = .call { callee := .builtin .append, args := #[s, x], argTypes := #[t, t] })
    (base : Nat) (e : TypeId) (i : TypeInfo) (size : Nat) (ht : P.underlying t = some (.slice e)) (hi : P.info? e = some i) (hsize : i.size = size) (g n cap : Nat) (xs : List Value)
    (hown : w.ownsRow base e size (.slice (some ⟨g, 0, none⟩) n cap) n xs) (k : Nat) (hk : k < n) (ad : Addr) (had : ad = ⟨g, (k + 1) * size, none⟩ ∨ n = k + 1) (c2 : Nat) (h1 : ∀ u ∈ xs, u.oneCell' = true)
    (hs : a.eval s = .slice (some ⟨g, 0, none⟩) k cap) (hx : a.eval x = .slice (some ad) (n - (k + 1)) c2)
    (h : ∀ w', w'.ownsRow base e size (.slice (some ⟨g, 0, none⟩) (n - 1) cap) (n - 1) (xs.take (k * size) ++ xs.drop ((k + 1) * size)) → w.grownBy w' (some g) → K (a.put o.dst (.slice (some ⟨g, 0, none⟩) (n - 1) cap)) w') :
    if Region.wanted o (yielded ops a.tmps) = true then Oper.wp P o a w K Q else E := by
  have hw : Region.wanted o (yielded ops a.tmps) = true := by simp [Region.wanted, hgd]
  rw [if_pos hw]
  obtain ⟨w', hr, h2, h3⟩ := run_append_shift (P := P) w base t o.type e i size ht hi hsize g n cap xs hown k hk ad had c2 h1
  unfold Oper.wp execOp
  simp only [ho, resolve, invoke, builtin, Sem.run_bind, Sem.run_pure, Result.andThen_ok, List.map_toArray, List.map_cons, List.map_nil, hs, hx, hr]
  exact h w' h2 h3

/-- Two operations are ready at once: both are walked. -/
theorem wpAnyZ_two {P : Program} {ops : Array Oper} {md : Region.Mode} {C : World → Prop} {Q : Exit → Act → World → Prop} {z : Nat} (i j : Nat) {fuel : Nat} {listed : Array Bool} {a : Act} {w : World} (hr : Region.ready md ops listed = [i, j])
    (hi : ∀ oi, ops[i]? = some oi → ∀ K : Act → World → Prop, (∀ a' w', (i = z ∨ C w') → wpAnyZ P md ops z C Q fuel (listed.setIfInBounds i true) a' w' → K a' w') → if Region.wanted oi (yielded ops a.tmps) then Oper.wp P oi a w K Q else K (a.put oi.dst undef) w)
    (hj : ∀ oi, ops[j]? = some oi → ∀ K : Act → World → Prop, (∀ a' w', (j = z ∨ C w') → wpAnyZ P md ops z C Q fuel (listed.setIfInBounds j true) a' w' → K a' w') → if Region.wanted oi (yielded ops a.tmps) then Oper.wp P oi a w K Q else K (a.put oi.dst undef) w) : wpAnyZ P md ops z C Q (fuel + 1) listed a w := by
  refine ⟨fun h0 => (by rw [hr] at h0; cases h0), fun k hk => ?_⟩
  have hm := hk
  rw [hr] at hk
  obtain ⟨_, oi, ho, _⟩ := mem_ready.1 hm
  have step : ∀ (h : ∀ oi, ops[k]? = some oi → ∀ K : Act → World → Prop, (∀ a' w', (k = z ∨ C w') → wpAnyZ P md ops z C Q fuel (listed.setIfInBounds k true) a' w' → K a' w') → if Region.wanted oi (yielded ops a.tmps) then Oper.wp P oi a w K Q else K (a.put oi.dst undef) w), wpOp P ops Q k (fun a' w' => (k = z ∨ C w') ∧ wpAnyZ P md ops z C Q fuel (listed.setIfInBounds k true) a' w') a w := fun h => by
    have h := h oi ho (fun a' w' => (k = z ∨ C w') ∧ wpAnyZ P md ops z C Q fuel (listed.setIfInBounds k true) a' w') (fun a' w' h1 h2 => ⟨h1, h2⟩)
    unfold wpOp
    simp only [ho]
    by_cases hwt : Region.wanted oi (yielded ops a.tmps) = true
    · rw [if_pos hwt] at h ⊢; exact .inl h
    · rw [if_neg hwt] at h ⊢; exact h
  simp only [List.mem_cons, List.not_mem_nil, or_false] at hk
  rcases hk with rfl | rfl
  · exact step hi
  · exact step hj

theorem run_app_none {P : Program} {w : World} (base : Nat) (t ty e : TypeId) (i : TypeInfo) (size : Nat) (ht : P.underlying t = some (.slice e)) (hi : P.info? e = some i)
    (v : Value) (n : Nat) (xs : List Value) (hown : w.ownsRow base e size v n xs) (c : Nat) :
    (Builtin.append_ #[t, t] ty #[v, .slice none 0 c]).run P w = .ok v w := by
  rcases hown.2 with ⟨rfl, rfl⟩ | ⟨g, cap, cur, rfl, _, _, hnc, _⟩
  · simp [Builtin.append_, run_underlying ht, sizeOf, typeInfo, hi, Builtin.lenOf, Builtin.firstCells]
  · simp [Builtin.append_, run_underlying ht, sizeOf, typeInfo, hi, Builtin.lenOf, Builtin.firstCells, hnc, storeCells]
/-- What is appended: elements that lie somewhere, or nothing. -/
def Lies (w : World) (xa : Option Addr) (m : Nat) (_c size : Nat) (news : List Value) : Prop := news.length = m * size ∧ ((∃ ad, xa = some ad ∧ ∀ j u, news[j]? = some u → w.cell? (ad.add j) = some u) ∨ (xa = none ∧ m = 0))
theorem Lies.on {w w' : World} {xa : Option Addr} {m c size : Nat} {news : List Value} (h : Lies w xa m c size news) (hb : Below w.heap.size w w') : Lies w' xa m c size news := by
  refine ⟨h.1, ?_⟩
  rcases h.2 with ⟨ad, e, hc⟩ | h
  · refine .inl ⟨ad, e, fun j u hu => (hb.cell ?_).trans (hc j u hu)⟩
    have := cell_lt (hc j u hu)
    exact this
  · exact .inr h
/-- An append of what lies somewhere to a row that a call owns, as one step of a region that draws its order. -/
theorem step_lies {P : Program} (w : World) {ops : Array Oper} {o : Oper} {a : Act} {K : Act → World → Prop} {Q : Exit → Act → World → Prop} {E : Prop} (hgd : o.guard = none) (s x : Operand) (t : TypeId)
    (ho : o.op = .call { callee := .builtin .append, args := #[s, x], argTypes := #[t, t] })
    (base : Nat) (e : TypeId) (i : TypeInfo) (z : Value) (size bytes : Nat) (ht : P.underlying t = some (.slice e)) (hi : P.info? e = some i) (hz : i.zero = some z)
    (hsize : i.size = size) (hby : i.bytes = bytes) (hzs : z.cells.size = size) (hsz : 0 < size)
    (v : Value) (n : Nat) (xs : List Value) (hs : a.eval s = v) (hown : w.ownsRow base e size v n xs)
    (xa : Option Addr) (m c : Nat) (news : List Value) (hx : a.eval x = .slice xa m c) (hl : Lies w xa m c size news) (h1 : ∀ u ∈ news, u.oneCell' = true)
    (h63 : n + m ≤ maxLen) (hbytes : (n + m) * bytes ≤ 140737488355328) (hbase : base ≤ w.heap.size)
    (h : ∀ v' w', w'.ownsRow base e size v' (n + m) (xs ++ news) → w.grownBy w' v.ownBlock → K (a.put o.dst v') w') :
    if Region.wanted o (yielded ops a.tmps) = true then Oper.wp P o a w K Q else E := by
  obtain ⟨hlen, ⟨ad, rfl, hc⟩ | ⟨rfl, rfl⟩⟩ := hl
  · exact step_own w hgd s x t ho base e i z size bytes ht hi hz hsize hby hzs hsz v n xs hs hown ad m c news hx hlen hc h1 h63 hbytes hbase (fun v' w' h2 h3 _ => h v' w' h2 h3)
  · obtain rfl : news = [] := by simpa using hlen
    have hw : Region.wanted o (yielded ops a.tmps) = true := by simp [Region.wanted, hgd]
    rw [if_pos hw]
    have hr := run_app_none (P := P) (w := w) base t o.type e i size ht hi v n xs hown c
    unfold Oper.wp execOp
    simp only [ho, resolve, invoke, builtin, Sem.run_bind, Sem.run_pure, Result.andThen_ok, List.map_toArray, List.map_cons, List.map_nil, hs, hx, hr]
    exact h v w (by simpa using hown) ⟨rfl, rfl, rfl, Nat.le_refl _, fun _ _ _ => rfl⟩

end Go.Proofs.YtnfmhcddfjgcmaaDoor
