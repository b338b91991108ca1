/-
  Elements in memory that is new; the frame of the reader's pattern.
-/
import Derived.Test.YtmhpakhnclkenaaGreatDoorParS
namespace Go.Proofs.YtmhpakhnclkenaaGreatDoor
open Go.RowKit Go.Shelf

theorem infoM : (Tryz.prog.info? 55).map (fun i => (i.zero, i.size, i.bytes)) = some (some (.agg zeroM), 11, 144) := by kernel_rfl
theorem elemQ_ts (s : Ps) : (elemQ s).1.ts.length ≤ s.rest.length + 1 := by
  have h1 := eatP_len s bgB
  have h2 := nameP_len (eatP s bgB).2
  have h3 := mustP_len [clnB] (nameP (eatP s bgB).2).2
  have h4 := (partsF_len nameP brB nameP_len ((mustP (nameP (eatP s bgB).2).2 [clnB]).rest.length + 1) (mustP (nameP (eatP s bgB).2).2 [clnB])).2
  change (partsP nameP brB (mustP (nameP (eatP s bgB).2).2 [clnB])).1.length ≤ _ at h4
  unfold elemQ
  simp only
  split <;> simp only <;> omega

/-- An element's cells, as they are written. -/
structure Ew where
  e : Em
  p : Pl
abbrev Ew.cs (x : Ew) : Array Value := x.e.cs x.p
def newsE (l : List Ew) : List Value := l.flatMap fun x => x.cs.toList
theorem newsE_append (l k : List Ew) : newsE (l ++ k) = newsE l ++ newsE k := by simp [newsE]
theorem newsE_len (l : List Ew) : (newsE l).length = l.length * 11 := by
  induction l with
  | nil => rfl
  | cons x r ih => rw [newsE, List.flatMap_cons, List.length_append, show (r.flatMap fun x => x.cs.toList) = newsE r from rfl, ih]; simp; omega
theorem newsE_at (l : List Ew) : ∀ (j : Nat) x, l[j]? = some x → ∀ i, i < 11 → (newsE l)[j * 11 + i]? = x.cs[i]? := by
  induction l with
  | nil => intro j x hx; simp at hx
  | cons y r ih =>
    intro j x hx i hi
    rw [newsE, List.flatMap_cons]
    cases j with
    | zero =>
      simp at hx; subst hx
      rw [List.getElem?_append_left (by simp; omega)]
      simp
    | succ j =>
      rw [List.getElem?_append_right (by simp; omega)]
      have := ih j x (by simpa using hx) i hi
      rw [← this]
      congr 1
      simp; omega
theorem newsE_one (l : List Ew) : ∀ u ∈ newsE l, u.oneCell' = true := by
  intro u hu
  simp only [newsE, List.mem_flatMap] at hu
  obtain ⟨x, -, hx⟩ := hu
  simp only [List.mem_cons, List.not_mem_nil, or_false] at hx
  rcases hx with h | h | h | h | h | h | h | h | h | h | h <;> subst h <;> rfl

/-- What an element's lists hold, in blocks from m on, below k. -/
def ElIn (m k : Nat) (W : World) (x : Ew) : Prop := TxM m k W x.p.ta x.e.ts ∧ LiesM m k W x.p.ka x.e.t.kids ∧ x.e.ts.length ≤ x.p.tc ∧ x.e.ts.length ≤ 100000
theorem ElIn.keep {m k : Nat} {A W : World} (hw : ∀ b, m ≤ b → b < k → W.heap[b]? = A.heap[b]?) {x : Ew} (h : ElIn m k A x) : ElIn m k W x := ⟨h.1.keep hw, h.2.1.keep hw, h.2.2⟩
theorem ElIn.mono {m n k l : Nat} (hn : n ≤ m) (hk : k ≤ l) {W : World} {x : Ew} (h : ElIn m k W x) : ElIn n l W x := ⟨h.1.mono hn hk, h.2.1.mono hn hk, h.2.2⟩
theorem ElIn.sm {m k : Nat} {A W : World} (hs : Sm A.heap.size A W) (hk : k ≤ A.heap.size) {x : Ew} (h : ElIn m k A x) : ElIn m k W x := ⟨h.1.sm hs hk, h.2.1.sm hs hk, h.2.2⟩

/-- A row of elements at a, all its memory from block m on, below k. -/
def EmsM (m k : Nat) (W : World) (a : Option Addr) (es : List Em) : Prop :=
  es = [] ∨ ∃ (b off : Nat) (f : Nat → Pl), a = some ⟨b, off, none⟩ ∧ m ≤ b ∧ b < k ∧ ∀ (j : Nat) e, es[j]? = some e → (∀ (i : Nat) u, (e.cs (f j))[i]? = some u → W.cell? ⟨b, off + j * 11 + i, none⟩ = some u) ∧ ElIn m k W ⟨e, f j⟩
theorem EmsM.keep {m k : Nat} {A W : World} (hw : ∀ b, m ≤ b → b < k → W.heap[b]? = A.heap[b]?) {a : Option Addr} {es : List Em} (h : EmsM m k A a es) : EmsM m k W a es := by
  rcases h with h | ⟨b, off, f, e, hm, hk, hc⟩
  · exact .inl h
  · exact .inr ⟨b, off, f, e, hm, hk, fun j x hx => ⟨fun i u hu => (World.cell?_of_block (w := A) (a := ⟨b, _, none⟩) (hw b hm hk)).trans ((hc j x hx).1 i u hu), (hc j x hx).2.keep hw⟩⟩
theorem EmsM.mono {m n k l : Nat} (hn : n ≤ m) (hk : k ≤ l) {W : World} {a : Option Addr} {es : List Em} (h : EmsM m k W a es) : EmsM n l W a es := by
  rcases h with h | ⟨b, off, f, e, hm, hb, hc⟩
  · exact .inl h
  · exact .inr ⟨b, off, f, e, Nat.le_trans hn hm, Nat.lt_of_lt_of_le hb hk, fun j x hx => ⟨(hc j x hx).1, (hc j x hx).2.mono hn hk⟩⟩
theorem EmsM.sm {m k : Nat} {A W : World} (hs : Sm A.heap.size A W) (hk : k ≤ A.heap.size) {a : Option Addr} {es : List Em} (h : EmsM m k A a es) : EmsM m k W a es := by
  rcases h with h | ⟨b, off, f, e, hm, hb, hc⟩
  · exact .inl h
  · exact .inr ⟨b, off, f, e, hm, hb, fun j x hx => ⟨fun i u hu => hs.cell (by omega) ((hc j x hx).1 i u hu), (hc j x hx).2.sm hs hk⟩⟩
theorem TxM.txts {m k : Nat} {W : World} (hk : k ≤ W.heap.size) {a : Option Addr} {ts : List Txt} (h : TxM m k W a ts) (hl : ts.length ≤ 100000) : Txts W.heap.size W a ts := by
  refine ⟨by omega, ?_⟩
  rcases h with h | ⟨b, off, e, hm, hb, hc⟩
  · exact .inl h
  · exact .inr ⟨b, off, e, by omega, hc⟩
theorem EmsM.ems {m k : Nat} {W : World} (hk : k ≤ W.heap.size) {a : Option Addr} {es : List Em} (h : EmsM m k W a es) (hl : es.length ≤ 1000000) : Ems W.heap.size W a es := by
  refine ⟨hl, ?_⟩
  rcases h with h | ⟨b, off, f, e, hm, hb, hc⟩
  · exact .inl h
  · exact .inr ⟨b, off, f, e, by omega, fun j x hx => ⟨(hc j x hx).1, (hc j x hx).2.1.txts hk (hc j x hx).2.2.2.2, (hc j x hx).2.2.1.lies hk⟩⟩
/-- This value is that pattern, its memory new from block m on. -/
def PatAt (m : Nat) (W : World) (v : Value) (q : Pt) : Prop := ∃ a cap, v = q.v a cap ∧ EmsM m W.heap.size W a q.es ∧ q.es.length ≤ cap

/-- An owned row of elements. -/
theorem emsm_own {W : World} {base m : Nat} {a : Option Addr} {c : Nat} {l : List Ew} (h : W.ownsRow base 55 11 (.slice a l.length c) l.length (newsE l)) (hm : m ≤ base)
    (hk : ∀ (j : Nat) x, l[j]? = some x → ElIn m W.heap.size W x) : EmsM m W.heap.size W a (l.map Ew.e) := by
  rcases h.2 with ⟨e, h0⟩ | ⟨g, cap', cur, e, hb, hg, hr⟩
  · refine .inl ?_
    simp only [Value.slice.injEq] at e
    rw [List.eq_nil_of_length_eq_zero e.2.1]; rfl
  · simp only [Value.slice.injEq] at e
    obtain ⟨rfl, -, rfl⟩ := e
    refine .inr ⟨g, 0, fun j => ((l[j]?).map Ew.p).getD ⟨none, 0, none, 0⟩, rfl, Nat.le_trans hm hb, (Array.getElem?_eq_some_iff.1 hg).1, fun j e he => ?_⟩
    rw [List.getElem?_map] at he
    obtain ⟨x, hx, rfl⟩ := Option.map_eq_some_iff.1 he
    have hj := (List.getElem?_eq_some_iff.1 hx).1
    simp only [hx, Option.map_some, Option.getD_some]
    refine ⟨fun i u hu => ?_, hk j x hx⟩
    have h11 : i < 11 := by have := (Array.getElem?_eq_some_iff.1 hu).1; simpa using this
    rw [Nat.zero_add, h.cellAt (j * 11 + i) (by omega), newsE_at l j x hx i h11]
    exact hu

/-- Ahead of a round: the pattern's elements so far, each in an interval of blocks of its own. -/
def ElJ (n B : Nat) (W : World) (D1 : Nat) (t : ByteArray) (s : Ps) (es : List Em) (V : World) : Prop :=
  ∃ a c, ∃ l : List Ew, ∃ f : Nat → Nat × Nat, l.map Ew.e = es ∧ EFr n B W V s 36 #[.slice none 0 0, .int .i64 0, .string ⟨#[]⟩, .bool false] #[.slice a l.length c, .int .i64 0, .string ⟨#[]⟩, .bool false] ∧
    V.ownsRow (D1 + 2) 55 11 (.slice a l.length c) l.length (newsE l) ∧ Box V D1 56 #[.pointer (some ⟨B, 0, none⟩)] ∧ Box V (D1 + 1) 9 #[.string t] ∧
    ∀ (j : Nat) x, l[j]? = some x → ElIn (f j).1 (f j).2 V x ∧ D1 + 2 ≤ (f j).1 ∧ (f j).2 ≤ V.heap.size ∧ ∀ g, Value.ownBlock (.slice a l.length c) = some g → g < (f j).1 ∨ (f j).2 ≤ g
theorem ElJ.own {n B : Nat} {W : World} {D1 : Nat} {t : ByteArray} {s : Ps} {es : List Em} {m : Nat} (hm : W.heap.size ≤ m) : OwnP okN m (fun (_ : Unit) => ElJ n B W D1 t s es) := fun _ V U row h hg hr => by
  obtain ⟨a, c, l, f, e, h1, h2, h3, h4, h5⟩ := h
  have hs := sm_grown hg fun r e => (hr r e).2
  exact ⟨a, c, l, f, e, h1.own hg fun r e => ⟨Nat.le_trans hm (hr r e).1, (hr r e).2⟩, own_sm hs h2, h3.sm hs, h4.sm hs, fun j x hx => ⟨(h5 j x hx).1.sm hs (h5 j x hx).2.2.1, (h5 j x hx).2.1, Nat.le_trans (h5 j x hx).2.2.1 hg.size, (h5 j x hx).2.2.2⟩⟩
theorem ElJ.up {n B : Nat} {W V U : World} {D1 : Nat} {t : ByteArray} {s s' : Ps} {es : List Em} (h : ElJ n B W D1 t s es V) (hB : B < W.heap.size) (hD : W.heap.size ≤ D1) (k : Kb B V U) (hr : RS n B U s') : ElJ n B W D1 t s' es U := by
  obtain ⟨a, c, l, f, e, h1, h2, h3, h4, h5⟩ := h
  refine ⟨a, c, l, f, e, h1.up hB k hr, k.own (by omega) h2, k.box h3 (by omega), k.box h4 (by omega), fun j x hx => ?_⟩
  obtain ⟨q1, q2, q3, q4⟩ := h5 j x hx
  exact ⟨q1.keep fun b hm hb => k.block b (by omega) (by omega), q2, Nat.le_trans q3 k.size, q4⟩

/-- The end of pattern: the mark of the loop is taken. -/
theorem pat_post {n B : Nat} {W VF : World} {D : Nat} {s : Ps} {q : Pt} {a : Option Addr} {c : Nat} (rF : RS n B VF s) (kF : Kb B W VF) (hdF : VF.heap[D]? = some (.deferred (some []))) (hD : W.heap.size ≤ D)
    (eF : EmsM W.heap.size VF.heap.size VF a q.es) (hcap : q.es.length ≤ c) :
    ∃ v', Ending.returned (q.v a c) = .returned v' ∧ PatAt W.heap.size (VF.putObj D (.deferred none)) v' q ∧ RS n B (VF.putObj D (.deferred none)) s ∧ Kb B W (VF.putObj D (.deferred none)) := by
  have hg := grownBy_putObj' VF D (.deferred none)
  have hr : ∀ r, some D = some r → ∃ o : Obj, VF.heap[r]? = some o ∧ okN o := fun r e => by cases e; exact ⟨_, hdF, rfl⟩
  have hs := sm_grown hg hr
  exact ⟨_, rfl, ⟨a, c, rfl, (eF.sm hs (Nat.le_refl _)).mono (Nat.le_refl _) hg.size, hcap⟩, rF.sm hs hg.size, kF.grown hg fun k e => by cases e; exact hD⟩

end Go.Proofs.YtmhpakhnclkenaaGreatDoor
