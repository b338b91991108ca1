/-
  A region that draws its order, by what holds at each place of it: if each operation that may come up keeps it, it holds at the end, whatever order was picked.
  The document's chain in memory (package pasternref1): its schemas in a row, its changes in a row; and what its Last and At tell; in whatever world; nothing that lay is turned.
  What the document's Add makes of a chain and a change; in whatever world; nothing that lay is turned but the chain itself.
  What the document's NewChain makes: a chain, or an error's number; for every schema and row of at most 30 changes, in whatever world; nothing that lay is turned.
-/
import Derived.Test.YtcjpaldijngnpaaGreatDoorReadsZ
import Derived.Test.YtcjpaldijngnpaaGreatDoorChAt
import Derived.Test.YtcjpaldijngnpaaGreatDoorRefApply
import Derived.BigRegion
import Derived.Test.YtcjpaldijngnpaaGreatDoorChAdd
import Derived.Test.YtcjpaldijngnpaaGreatDoorChNew
import Derived.Test.YtcjpaldijngnpaaGreatDoorRefSch
namespace Go.Proofs.YtcjpaldijngnpaaGreatDoor
open Go.RowKit

section
variable {P : Program} {ops : Array Oper} {md : Region.Mode} {Q : Exit → Act → World → Prop}

/-- How many of n operations are still to come. -/
def togo (n : Nat) (listed : Array Bool) : Nat := ((List.range n).filter fun j => !(listed.getD j true)).length
theorem getD_set_same {listed : Array Bool} {i : Nat} (h : listed.getD i true = false) : (listed.setIfInBounds i true).getD i true = true := by
  have hi : i < listed.size := by
    rw [Array.getD_eq_getD_getElem?] at h
    rcases Nat.lt_or_ge i listed.size with hl | hl
    · exact hl
    · rw [Array.getElem?_eq_none hl] at h; cases h
  simp [Array.getD_eq_getD_getElem?, hi]
theorem togo_set {n : Nat} {listed : Array Bool} {i : Nat} (hn : i < n) (h : listed.getD i true = false) : togo n (listed.setIfInBounds i true) < togo n listed := by
  unfold togo
  have e : (List.range n).filter (fun j => !((listed.setIfInBounds i true).getD j true)) = ((List.range n).filter fun j => !(listed.getD j true)).filter fun j => j != i := by
    rw [List.filter_filter]
    congr 1
    funext j
    rcases Decidable.em (i = j) with rfl | hij
    · rw [getD_set_same h]; simp
    · rw [getD_set_ne true hij]
      simp [Ne.symm hij]
  rw [e, List.length_filter_lt_length_iff_exists]
  exact ⟨i, List.mem_filter.2 ⟨List.mem_range.2 hn, by simp [h]⟩, by simp⟩
theorem togo_zero {n : Nat} {listed : Array Bool} (h : togo n listed = 0) {i : Nat} (hi : i < n) : listed.getD i true = true := by
  unfold togo at h
  cases hq : listed.getD i true
  · have hm : i ∈ (List.range n).filter fun j => !(listed.getD j true) := List.mem_filter.2 ⟨List.mem_range.2 hi, by simp [hq]⟩
    rw [List.length_eq_zero_iff.1 h] at hm
    cases hm
  · rfl

theorem wpAny_inv (I : Array Bool → Act → World → Prop)
    (hstep : ∀ listed a w i, I listed a w → i ∈ Region.ready md ops listed → wpOp P ops Q i (fun a' w' => I (listed.setIfInBounds i true) a' w') a w)
    (hdone : ∀ listed a w, I listed a w → Region.ready md ops listed = [] → Q .normal a w) :
    ∀ (fuel : Nat) (listed : Array Bool) (a : Act) (w : World), togo ops.size listed ≤ fuel → I listed a w → wpAny P md ops Q fuel listed a w
  | 0, listed, a, w, hf, hI => by
    have hr : Region.ready md ops listed = [] := by
      rcases h : Region.ready md ops listed with _ | ⟨i, l⟩
      · rfl
      · exfalso
        have hm : i ∈ Region.ready md ops listed := by rw [h]; simp
        obtain ⟨hun, oi, hoi, _⟩ := mem_ready.1 hm
        have := togo_zero (Nat.le_zero.1 hf) (Array.getElem?_eq_some_iff.1 hoi).1
        rw [this] at hun; cases hun
    exact ⟨hr, hdone listed a w hI hr⟩
  | fuel + 1, listed, a, w, hf, hI => by
    refine ⟨fun hr => hdone listed a w hI hr, fun i hi => ?_⟩
    obtain ⟨hun, oi, hoi, _⟩ := mem_ready.1 hi
    have hlt := togo_set (Array.getElem?_eq_some_iff.1 hoi).1 hun
    exact wpOp_mono (fun a' w' h' => wpAny_inv I hstep hdone fuel _ a' w' (by omega) h') (hstep listed a w i hI hi)

/-- Each operation waits for earlier ones alone. -/
def depsUp (md : Region.Mode) (ops : Array Oper) : Bool := (List.range ops.size).all fun i => (ops[i]?).all fun o => o.after.toList.all fun e => !(Region.binds md e) || decide (e.on < i)
theorem ready_nil (hd : depsUp md ops = true) {listed : Array Bool} (hs : listed.size = ops.size) (h : Region.ready md ops listed = []) : ∀ i, i < ops.size → listed.getD i true = true := by
  intro i
  induction i using Nat.strongRecOn with
  | ind i ih =>
    intro hi
    cases hq : listed.getD i true
    · exfalso
      have hm : i ∈ Region.ready md ops listed := by
        refine mem_ready.2 ⟨hq, ops[i], Array.getElem?_eq_getElem hi, fun e he hb => ?_⟩
        have h1 := List.all_eq_true.1 hd i (List.mem_range.2 hi)
        rw [Array.getElem?_eq_getElem hi] at h1
        simp only [Option.all_some, List.all_eq_true, Bool.or_eq_true, Bool.not_eq_true', decide_eq_true_eq] at h1
        have h2 := (h1 e (by simpa using he)).resolve_left (by rw [hb]; simp)
        have h3 := ih e.on h2 (by omega)
        rw [Array.getD_eq_getD_getElem?] at h3 ⊢
        cases hz : listed[e.on]? with
        | none => have := Array.getElem?_eq_none_iff.1 hz; omega
        | some b => rw [hz] at h3; simpa using h3
      rw [h] at hm; cases hm
    · rfl
/-- What came up, came up behind what it waits for. -/
theorem ready_dep {listed : Array Bool} {i : Nat} (h : i ∈ Region.ready md ops listed) (j : Nat) (hw : waits md ops i j = true) : listed.getD j true = true := by
  cases hq : listed.getD j true
  · exact absurd h (waits_spec hw hq)
  · rfl
/-- The first n operations listed, none behind them. -/
def firsts (n m : Nat) : Array Bool := ((List.range m).map fun j => decide (j < n)).toArray
theorem firsts_of {listed : Array Bool} {n m : Nat} (hs : listed.size = m) (h1 : ∀ j, j < n → j < m → listed.getD j true = true) (h2 : ∀ j, n ≤ j → j < m → listed.getD j true = false) : listed = firsts n m := by
  apply Array.ext
  · simp [firsts, hs]
  · intro i hi _
    have e : listed.getD i true = listed[i] := by simp [Array.getD_eq_getD_getElem?, hi]
    rw [← e]
    simp only [firsts, List.getElem_toArray, List.getElem_map, List.getElem_range]
    rcases Nat.lt_or_ge i n with h | h
    · rw [h1 i h (by omega)]; simp [h]
    · rw [h2 i h (by omega)]; simp [Nat.not_lt.2 h]
theorem wpAny_until (n : Nat) (hd : depsUp md ops = true) (hn : n ≤ ops.size) (I : Array Bool → Act → World → Prop)
    (hw : ∀ listed a w j, I listed a w → n ≤ j → j ∈ Region.ready md ops listed → ∀ i, i < n → listed.getD i true = true)
    (hup : ∀ listed a w, I listed a w → listed.size = ops.size ∧ ∀ j, n ≤ j → j < ops.size → listed.getD j true = false)
    (hstep : ∀ listed a w i, I listed a w → i < n → i ∈ Region.ready md ops listed → wpOp P ops Q i (fun a' w' => I (listed.setIfInBounds i true) a' w') a w)
    (hfin : ∀ f a w, I (firsts n ops.size) a w → wpAny P md ops Q (f + (ops.size - n)) (firsts n ops.size) a w) :
    ∀ (fuel : Nat) (listed : Array Bool) (a : Act) (w : World), togo ops.size listed ≤ fuel → I listed a w → wpAny P md ops Q fuel listed a w := by
  intro fuel
  induction fuel with
  | zero =>
    intro listed a w hf hI
    obtain ⟨hs, h2⟩ := hup listed a w hI
    have h1 : ∀ j, j < ops.size → listed.getD j true = true := fun j hj => togo_zero (Nat.le_zero.1 hf) hj
    have hnn : n = ops.size := by
      rcases Nat.lt_or_ge n ops.size with h | h
      · have := h1 n h; rw [h2 n (Nat.le_refl _) h] at this; cases this
      · omega
    have e := firsts_of hs (fun j _ hj => h1 j hj) h2
    have := hfin 0 a w (e ▸ hI)
    rw [← e, hnn, Nat.sub_self] at this
    exact this
  | succ fuel ih =>
    intro listed a w hf hI
    obtain ⟨hs, h2⟩ := hup listed a w hI
    by_cases hall : ∀ j, j < n → listed.getD j true = true
    · have e := firsts_of hs (fun j hj _ => hall j hj) h2
      have hle : ops.size - n ≤ fuel + 1 := by
        have : togo ops.size listed = ops.size - n := by
          unfold togo
          have e2 : (List.range ops.size).filter (fun j => !(listed.getD j true)) = (List.range' n (ops.size - n)) := by
            have e3 : List.range ops.size = List.range n ++ List.range' n (ops.size - n) := by
              rw [List.range_eq_range', List.range_eq_range']
              have h := @List.range'_append_1 0 n (ops.size - n)
              rw [Nat.zero_add, show n + (ops.size - n) = ops.size by omega] at h
              exact h.symm
            rw [e3, List.filter_append]
            rw [List.filter_eq_nil_iff.2 (fun j hj => by rw [hall j (List.mem_range.1 hj)]; simp), List.nil_append]
            refine List.filter_eq_self.2 fun j hj => ?_
            have := List.mem_range'_1.1 hj
            rw [h2 j (by omega) (by omega)]; rfl
          rw [e2, List.length_range']
        omega
      have := hfin (fuel + 1 - (ops.size - n)) a w (e ▸ hI)
      rw [← e, show fuel + 1 - (ops.size - n) + (ops.size - n) = fuel + 1 by omega] at this
      exact this
    · obtain ⟨j0, hj0⟩ := Classical.not_forall.1 hall
      obtain ⟨hj0n, hj0f⟩ := Classical.not_imp.1 hj0
      have hj0f : listed.getD j0 true = false := by simpa using hj0f
      refine ⟨fun hr => ?_, fun i hi => ?_⟩
      · have := ready_nil hd hs hr j0 (by omega)
        rw [hj0f] at this; cases this
      · obtain ⟨hun, oi, hoi, _⟩ := mem_ready.1 hi
        have hio := (Array.getElem?_eq_some_iff.1 hoi).1
        have hin : i < n := by
          rcases Nat.lt_or_ge i n with h | h
          · exact h
          · exfalso
            have h1 := hw listed a w i hI h hi j0 hj0n
            rw [hj0f] at h1; cases h1
        have hlt := togo_set hio hun
        exact wpOp_mono (fun a' w' h' => ih _ a' w' (by omega) h') (hstep listed a w i hI hin hi)

end

end Go.Proofs.YtcjpaldijngnpaaGreatDoor

namespace Go.Proofs.YtcjpaldijngnpaaGreatDoor
open Go.RowKit Go.Shelf

/-- A schema, where its types lie and how much room there is. -/
abbrev Sw := List Ty × Option Addr × Nat
def newsS (xs : List Sw) : List Value := xs.map fun x => .slice x.2.1 x.1.length x.2.2
/-- A row that may be read, below n₀. -/
def Row (n₀ : Nat) (W : World) (a : Option Addr) (m size : Nat) (news : List Value) : Prop :=
  news.length = m * size ∧ ((∃ b off, a = some ⟨b, off, none⟩ ∧ b < n₀ ∧ ∀ j u, news[j]? = some u → W.cell? ⟨b, off + j, none⟩ = some u) ∨ (a = none ∧ m = 0))
theorem Row.below {n₀ : Nat} {A B : World} (hb : Below n₀ A B) {a : Option Addr} {m size : Nat} {news : List Value} (h : Row n₀ A a m size news) : Row n₀ B a m size news := by
  refine ⟨h.1, ?_⟩
  rcases h.2 with ⟨b, off, e, hlt, hc⟩ | h
  · exact .inl ⟨b, off, e, hlt, fun j u hu => (hb.cell (p := ⟨b, off + j, none⟩) hlt).trans (hc j u hu)⟩
  · exact .inr h
theorem Row.keep {X : Nat → Prop} {n₀ : Nat} {A B : World} (hk : KeepC X A B) (hX : ∀ k, X k → n₀ ≤ k) {a : Option Addr} {m size : Nat} {news : List Value} (h : Row n₀ A a m size news) : Row n₀ B a m size news := by
  refine ⟨h.1, ?_⟩
  rcases h.2 with ⟨b, off, e, hlt, hc⟩ | h
  · exact .inl ⟨b, off, e, hlt, fun j u hu => hk.cell (hc j u hu) (fun hx => by have := hX _ hx; omega)⟩
  · exact .inr h
theorem Row.mono {n₀ n₁ : Nat} (hn : n₀ ≤ n₁) {A : World} {a : Option Addr} {m size : Nat} {news : List Value} (h : Row n₀ A a m size news) : Row n₁ A a m size news := by
  refine ⟨h.1, ?_⟩
  rcases h.2 with ⟨b, off, e, hlt, hc⟩ | h
  · exact .inl ⟨b, off, e, by omega, hc⟩
  · exact .inr h
theorem Row.lies {n₀ : Nat} {W : World} {a : Option Addr} {m size : Nat} {news : List Value} (h : Row n₀ W a m size news) (c : Nat) : Lies W a m c size news := by
  refine ⟨h.1, ?_⟩
  rcases h.2 with ⟨b, off, e, hlt, hc⟩ | h
  · exact .inl ⟨_, e, fun j u hu => by rw [WideShapes.add_plain]; exact hc j u hu⟩
  · exact .inr h
theorem row_of_owns {W : World} {base : Nat} {e : TypeId} {size n : Nat} {v : Value} {xs : List Value} (h : W.ownsRow base e size v n xs) : ∃ a c, v = .slice a n c ∧ Row W.heap.size W a n size xs := by
  rcases h.2 with ⟨rfl, h0⟩ | ⟨g, cap, cur, rfl, hb, hg, _⟩
  · subst h0
    exact ⟨none, 0, rfl, h.1, .inr ⟨rfl, rfl⟩⟩
  · refine ⟨_, _, rfl, h.1, .inl ⟨g, 0, rfl, (Array.getElem?_eq_some_iff.1 hg).1, fun j u hu => ?_⟩⟩
    have := h.cells (g := g) rfl j u hu
    rwa [WideShapes.add_plain] at this

/-- The schemas of a chain: each version's. -/
def versL (ts : List Ty) (cs : List Ch) : List (List Ty) := (List.range (cs.length + 1)).map (vers ts cs)
theorem vers_snoc (ts : List Ty) (cs : List Ch) (c : Ch) {k : Nat} (hk : k ≤ cs.length) : vers ts (cs ++ [c]) k = vers ts cs k := by
  unfold vers
  rw [List.take_append_of_le_length hk]
theorem vers_last (ts : List Ty) (cs : List Ch) (c : Ch) : vers ts (cs ++ [c]) (cs.length + 1) = appT (vers ts cs cs.length) c := by
  unfold vers
  rw [List.take_of_length_le (by simp), List.take_length, List.foldl_append]
  rfl
theorem versL_snoc (ts : List Ty) (cs : List Ch) (c : Ch) : versL ts (cs ++ [c]) = versL ts cs ++ [appT (vers ts cs cs.length) c] := by
  unfold versL
  rw [List.length_append, List.length_singleton, List.range_succ, List.map_append]
  congr 1
  · exact List.map_congr_left fun k hk => vers_snoc ts cs c (by have := List.mem_range.1 hk; omega)
  · simp [vers_last]
theorem versL_nil (ts : List Ty) : versL ts [] = [ts] := rfl
theorem versL_len (ts : List Ty) (cs : List Ch) : (versL ts cs).length = cs.length + 1 := by simp [versL]

/-- The document's chain at Bp: this schema, these changes, below n₀. -/
structure RCh (n₀ : Nat) (W : World) (Bp : Nat) (sa la : Option Addr) (sc lc : Nat) (xs : List Sw) (ts : List Ty) (cs : List Ch) : Prop where
  box : Box W Bp 49 #[.slice sa (cs.length + 1) sc, .slice la cs.length lc]
  lt : Bp < n₀
  is : xs.map (·.1) = versL ts cs
  row : Row n₀ W sa (cs.length + 1) 1 (newsS xs)
  own : ∀ x ∈ xs, Typs n₀ W x.2.1 x.1
  chs : Row n₀ W la cs.length 7 (newsC cs)
  typ : ∀ b off, sa = some ⟨b, off, none⟩ → ∃ cur, W.heap[b]? = some (.cells cur 24 (0, 0))
theorem RCh.on {n₀ : Nat} {A B : World} {Bp : Nat} {sa la : Option Addr} {sc lc : Nat} {xs : List Sw} {ts : List Ty} {cs : List Ch} (h : RCh n₀ A Bp sa la sc lc xs ts cs) (hb : Below n₀ A B) : RCh n₀ B Bp sa la sc lc xs ts cs :=
  ⟨h.box.on hb h.lt, h.lt, h.is, h.row.below hb, fun x hx => (h.own x hx).below hb, h.chs.below hb, fun b off e => by
    obtain ⟨cur, hg⟩ := h.typ b off e
    refine ⟨cur, (hb.block b ?_).trans hg⟩
    rcases h.row.2 with ⟨b', off', e', hlt, _⟩ | ⟨e', _⟩
    · rw [e] at e'; simp only [Option.some.injEq, Addr.mk.injEq] at e'; omega
    · rw [e] at e'; cases e'⟩
theorem RCh.mono {n₀ n₁ : Nat} (hn : n₀ ≤ n₁) {A : World} {Bp : Nat} {sa la : Option Addr} {sc lc : Nat} {xs : List Sw} {ts : List Ty} {cs : List Ch} (h : RCh n₀ A Bp sa la sc lc xs ts cs) : RCh n₁ A Bp sa la sc lc xs ts cs :=
  ⟨h.box, by have := h.lt; omega, h.is, h.row.mono hn, fun x hx => (h.own x hx).mono hn, h.chs.mono hn, h.typ⟩
theorem RCh.len {n₀ : Nat} {W : World} {Bp : Nat} {sa la : Option Addr} {sc lc : Nat} {xs : List Sw} {ts : List Ty} {cs : List Ch} (h : RCh n₀ W Bp sa la sc lc xs ts cs) : xs.length = cs.length + 1 := by
  have := congrArg List.length h.is
  rwa [List.length_map, versL_len] at this
/-- A store into a box of two slices of another type leaves the document's chain as it is. -/
theorem RCh.apart {n₀ : Nat} {A B : World} {Br : Nat} {sa la : Option Addr} {sc lc : Nat} {xs : List Sw} {ts : List Ty} {cs : List Ch} (h : RCh n₀ A Br sa la sc lc xs ts cs) {Bp n c m d : Nat} {p q : Option Addr} (hk : KeepC (fun k => k = Bp) A B) (hB : Box A Bp 76 #[.slice p n c, .slice q m d]) : RCh n₀ B Br sa la sc lc xs ts cs := by
  have hcell : ∀ o u, A.cell? ⟨Bp, o, none⟩ = some u → ∃ a n c, u = .slice a n c := by
    intro o u hu
    simp only [World.cell?, show A.heap[Bp]? = _ from hB] at hu
    rcases o with _ | _ | o <;> simp at hu
    · exact ⟨_, _, _, hu.symm⟩
    · exact ⟨_, _, _, hu.symm⟩
  have hstr : ∀ b o s, A.cell? ⟨b, o, none⟩ = some (.string s) → b ≠ Bp := by
    rintro b o s h rfl
    obtain ⟨_, _, _, e⟩ := hcell o _ h
    cases e
  have hty : ∀ ta us, Typs n₀ A ta us → Typs n₀ B ta us := by
    intro ta us hT
    rcases hT with e | ⟨b, off, e, hb, hc⟩
    · exact .inl e
    · refine .inr ⟨b, off, e, hb, fun j hj => ?_⟩
      obtain ⟨h1, a', c', h2, h3, h4⟩ := hc j hj
      have hne := hstr _ _ _ h1
      refine ⟨hk.cell h1 hne, a', c', hk.cell h2 hne, ?_, h4⟩
      rcases h3 with e | ⟨b2, off2, e2, hb2, hc2⟩
      · exact .inl e
      · refine .inr ⟨b2, off2, e2, hb2, fun i hi => ?_⟩
        obtain ⟨q1, q2⟩ := hc2 i hi
        have hne2 := hstr _ _ _ q1
        exact ⟨hk.cell q1 hne2, hk.cell q2 hne2⟩
  have hs : ∀ b off, sa = some ⟨b, off, none⟩ → b ≠ Bp := by
    rintro b off e rfl
    obtain ⟨cur, hg⟩ := h.typ b off e
    rw [show A.heap[b]? = _ from hB] at hg
    simp at hg
  refine ⟨hk.box h.box (fun e => ?_), h.lt, h.is, ⟨h.row.1, ?_⟩, fun x hx => hty _ _ (h.own x hx), ⟨h.chs.1, ?_⟩, fun b off e => ?_⟩
  · have h1 : A.heap[Br]? = some (.cells _ 49 (0, 0)) := h.box
    rw [e, show A.heap[Bp]? = _ from hB] at h1
    simp at h1
  · rcases h.row.2 with ⟨b, off, e, hlt, hc⟩ | h0
    · exact .inl ⟨b, off, e, hlt, fun j u hu => hk.cell (hc j u hu) (hs b off e)⟩
    · exact .inr h0
  · rcases h.chs.2 with ⟨b, off, e, hlt, hc⟩ | h0
    · refine .inl ⟨b, off, e, hlt, fun j u hu => hk.cell (hc j u hu) ?_⟩
      rintro rfl
      cases cs with
      | nil => simp [newsC] at hu
      | cons c0 l =>
        have h0 := hc 0 (.int .i64 c0.k) (by simp [newsC])
        obtain ⟨_, _, _, e⟩ := hcell _ _ h0
        cases e
    · exact .inr h0
  · obtain ⟨cur, hg⟩ := h.typ b off e
    exact ⟨cur, hk.same b _ (hs b off e) hg rfl⟩
/-- A store into a box of another type leaves the program's chain as it is. -/
theorem IsCh.apart {n₀ : Nat} {A B : World} {Bp : Nat} {a ac : Option Addr} {cap capc : Nat} {ts : List Ty} {cs : List Ch} (h : IsCh n₀ A Bp a ac cap capc ts cs) {Br : Nat} {vs : Array Value} (hk : KeepC (fun k => k = Br) A B) (hB : Box A Br 49 vs) : IsCh n₀ B Bp a ac cap capc ts cs := by
  have hrow : ∀ {base : Nat} {e : TypeId} {size n : Nat} {v : Value} {xs : List Value}, e ≠ 49 → A.ownsRow base e size v n xs → B.ownsRow base e size v n xs := by
    intro base e size n v xs hne ho
    refine owns_keep ho fun g hg _ => ?_
    obtain ⟨_, cur, hc⟩ := owns_lt ho hg
    have hgb : g ≠ Br := by
      rintro rfl
      rw [show A.heap[g]? = _ from hB] at hc
      simp only [Option.some.injEq, Obj.cells.injEq] at hc
      exact hne hc.2.1.symm
    exact (hk.same g _ hgb hc rfl).trans hc.symm
  obtain ⟨ys, h1, ⟨h2, h2'⟩, h3⟩ := h.own
  refine ⟨hk.box h.box (fun e => ?_), h.lt, ⟨ys, h1, ⟨hrow (by decide) h2, h2'⟩, fun x hx => ⟨hrow (by decide) (h3 x hx).1, (h3 x hx).2⟩⟩, hrow (by decide) h.row.1, h.row.2⟩
  have hb : A.heap[Bp]? = some (.cells _ 76 (0, 0)) := h.box
  rw [e, show A.heap[Br]? = _ from hB] at hb
  simp at hb
/-- The schema of a version, as it lies. -/
theorem RCh.at {n₀ : Nat} {W : World} {Bp : Nat} {sa la : Option Addr} {sc lc : Nat} {xs : List Sw} {ts : List Ty} {cs : List Ch} (h : RCh n₀ W Bp sa la sc lc xs ts cs) {k : Nat} (hk : k ≤ cs.length) :
    ∃ b off a c, sa = some ⟨b, off, none⟩ ∧ W.cell? ⟨b, off + k, none⟩ = some (.slice a (vers ts cs k).length c) ∧ Typs n₀ W a (vers ts cs k) := by
  have hl := h.len
  have hkx : k < xs.length := by omega
  have e : xs[k].1 = vers ts cs k := by
    have h1 : (xs.map (·.1))[k]? = some xs[k].1 := by simp [hkx]
    rw [h.is] at h1
    have h2 : (versL ts cs)[k]? = some (vers ts cs k) := by simp [versL, show k < cs.length + 1 by omega]
    rw [h2] at h1
    exact (Option.some.inj h1).symm
  rcases h.row.2 with ⟨b, off, ea, _, hc⟩ | ⟨_, h0⟩
  · refine ⟨b, off, xs[k].2.1, xs[k].2.2, ea, ?_, ?_⟩
    · rw [← e]; exact hc k _ (by simp [newsS, hkx])
    · rw [← e]; exact h.own _ (List.getElem_mem hkx)
  · omega

theorem infoSch : (Tryz.prog.info? 24).map (fun i => (i.zero, i.size, i.bytes)) = some (some (.agg #[.slice none 0 0]), 1, 24) := by kernel_rfl

set_option maxRecDepth 100000 in
set_option maxHeartbeats 4000000 in
theorem last_c (Bp sc lc : Nat) (sa la : Option Addr) (xs : List Sw) (ts : List Ty) (cs : List Ch) (h20 : cs.length ≤ 20) (w : World) (hC : RCh w.heap.size w Bp sa la sc lc xs ts cs) :
    Calls Tryz.prog 34 #[.pointer (some ⟨Bp, 0, none⟩)] w fun e w' => ∃ a c, e = .returned (.agg #[.slice a (vers ts cs cs.length).length c]) ∧ Typs w'.heap.size w' a (vers ts cs cs.length) ∧ Below w.heap.size w w' := by
  obtain ⟨b, off, a, c, rfl, hc, hT⟩ := hC.at (Nat.le_refl _)
  obtain ⟨W0, hW0⟩ : ∃ W0, W0 = w.alloc (.cells #[.slice none 0 0] 24) := ⟨_, rfl⟩
  have b0 : Below w.heap.size w W0 := by rw [hW0]; exact (Below.refl _ _).alloc (Nat.le_refl _) _
  have x2 : Box W0 w.heap.size 24 #[.slice none 0 0] := by rw [hW0]; exact Box.new _ _ _
  obtain ⟨hp0, hp1⟩ := (hC.on b0).box.two
  have hblt : b < w.heap.size := cell_lt hc
  have hcv : W0.cell? ⟨b, off + cs.length, none⟩ = some (.slice a (vers ts cs cs.length).length c) := (b0.cell (p := ⟨b, off + cs.length, none⟩) hblt).trans hc
  obtain ⟨n, hn⟩ : ∃ n, n = (vers ts cs cs.length).length := ⟨_, rfl⟩
  rw [← hn] at hcv ⊢
  replace hn := hide hn
  obtain ⟨m, hm⟩ : ∃ m, m = cs.length := ⟨_, rfl⟩
  rw [← hm] at hp0 hp1 hcv
  have hm20 : (m : Int) ≤ 20 := by omega
  replace hm := hide hm
  obtain ⟨hr0, hrf⟩ := x2.one
  go_enter Tryz.func34, Tryz.ntmps34
  go_upto_region 1 with fail
  rw [← hW0]
  clear hW0 hC hc
  go_region
  have d0 := ((x2.set 0 (.slice a n c)).drew).one.1
  have bz := (b0.setCell (p := ⟨w.heap.size, 0, none⟩) (Nat.le_refl _) (.slice a n c)).drew
  go_wp2_with fail
  refine bodyPost_ret (v := .agg #[.slice a n c]) (by simp [results, Tryz.results34, go_sem, d0]) rfl ⟨a, c, rfl, hT.on bz, bz⟩

set_option maxRecDepth 100000 in
set_option maxHeartbeats 4000000 in
/-- What the document's At tells. -/
theorem refAt_c (Bp sc lc : Nat) (sa la : Option Addr) (xs : List Sw) (ts : List Ty) (cs : List Ch) (v : Int) (h20 : cs.length ≤ 20) (w : World) (hC : RCh w.heap.size w Bp sa la sc lc xs ts cs) :
    Calls Tryz.prog 19 #[.pointer (some ⟨Bp, 0, none⟩), .int .i64 v] w fun e w' => Below w.heap.size w w' ∧
      ((∃ (k : Nat) (a : Option Addr) (c : Nat), v = k ∧ k ≤ cs.length ∧ e = .returned (.tuple #[.agg #[.slice a (vers ts cs k).length c], .bool true]) ∧ Typs w'.heap.size w' a (vers ts cs k)) ∨ ((v < 0 ∨ (cs.length : Int) < v) ∧ e = .returned (.tuple #[.agg #[.slice none 0 0], .bool false]))) := by
  obtain ⟨W0, hW0⟩ : ∃ W0, W0 = w.alloc (.cells #[.slice none 0 0] 24) := ⟨_, rfl⟩
  have b0 : Below w.heap.size w W0 := by rw [hW0]; exact (Below.refl _ _).alloc (Nat.le_refl _) _
  have x2 : Box W0 w.heap.size 24 #[.slice none 0 0] := by rw [hW0]; exact Box.new _ _ _
  obtain ⟨hp0, hp1⟩ := (hC.on b0).box.two
  obtain ⟨m, hm⟩ : ∃ m, m = cs.length := ⟨_, rfl⟩
  rw [← hm] at hp0 hp1
  have hm20 : (m : Int) ≤ 20 := by omega
  obtain ⟨hr0, hrf⟩ := x2.one
  go_enter Tryz.func19, Tryz.ntmps19
  go_upto_region 1 with fail
  rw [← hW0]
  clear hW0
  by_cases hv0 : v < 0
  · go_wp2_with fail
    have d0 := (x2.set 0 (.slice none 0 0)).one.1
    refine bodyPost_ret (v := .tuple #[.agg #[.slice none 0 0], .bool false]) (by simp [results, Tryz.results19, go_sem, d0]) rfl ⟨b0.setCell (p := ⟨w.heap.size, 0, none⟩) (Nat.le_refl _) _, .inr ⟨.inl hv0, rfl⟩⟩
  by_cases hvm : (m : Int) < v
  · have hvm' : (m : Int) + 1 ≤ v := by omega
    have hv0' : 0 ≤ v := by omega
    go_wp2_with fail
    have d0 := (x2.set 0 (.slice none 0 0)).one.1
    refine bodyPost_ret (v := .tuple #[.agg #[.slice none 0 0], .bool false]) (by simp [results, Tryz.results19, go_sem, d0]) rfl ⟨b0.setCell (p := ⟨w.heap.size, 0, none⟩) (Nat.le_refl _) _, .inr ⟨.inr (by rw [← hm]; exact hvm), rfl⟩⟩
  obtain ⟨k, rfl⟩ : ∃ k : Nat, v = k := ⟨v.toNat, by omega⟩
  obtain ⟨b, off, a, c, rfl, hc, hT⟩ := hC.at (k := k) (by omega)
  have hblt : b < w.heap.size := cell_lt hc
  have hcv : W0.cell? ⟨b, off + k, none⟩ = some (.slice a (vers ts cs k).length c) := (b0.cell (p := ⟨b, off + k, none⟩) hblt).trans hc
  have hkm : k ≤ cs.length := by omega
  have hk1 : (k : Int) < m + 1 := by omega
  obtain ⟨n, hn⟩ : ∃ n, n = (vers ts cs k).length := ⟨_, rfl⟩
  rw [← hn] at hcv
  have bz := b0.setCell (p := ⟨w.heap.size, 0, none⟩) (Nat.le_refl _) (.slice a n c)
  have hfin := hide (show ∀ W', Below w.heap.size w W' → ∃ (k' : Nat) (a' : Option Addr) (c' : Nat), (k : Int) = k' ∧ k' ≤ cs.length ∧ Ending.returned (.tuple #[.agg #[.slice a n c], .bool true]) = .returned (.tuple #[.agg #[.slice a' (vers ts cs k').length c'], .bool true]) ∧ Typs W'.heap.size W' a' (vers ts cs k') from fun W' hb => ⟨k, a, c, rfl, hkm, by rw [hn], hT.on hb⟩)
  clear hC hc hT hn hvm hv0
  replace hm := hide hm
  go_wp2_with fail
  have d0 := (x2.set 0 (.slice a n c)).one.1
  refine bodyPost_ret (v := .tuple #[.agg #[.slice a n c], .bool true]) (by simp [results, Tryz.results19, go_sem, d0]) rfl ⟨bz, .inl (unhide hfin _ bz)⟩

end Go.Proofs.YtcjpaldijngnpaaGreatDoor

namespace Go.Proofs.YtcjpaldijngnpaaGreatDoor
open Go.RowKit Go.Shelf

section
variable {P : Program} {ops : Array Oper} {md : Region.Mode} {Q : Exit → Act → World → Prop}
theorem was {listed : Array Bool} {i j : Nat} (hij : i ≠ j) (h : (listed.setIfInBounds i true).getD j true = true) : listed.getD j true = true := by rwa [getD_set_ne true hij] at h
theorem was_no {listed : Array Bool} {i j : Nat} (hij : i ≠ j) (h : (listed.setIfInBounds i true).getD j true = false) : listed.getD j true = false := by rwa [getD_set_ne true hij] at h
theorem still_no {listed : Array Bool} {i j : Nat} (hij : i ≠ j) (h : listed.getD j true = false) : (listed.setIfInBounds i true).getD j true = false := by rwa [getD_set_ne true hij]
theorem now_yes {listed : Array Bool} {i j : Nat} (h : listed.getD j true = true) : (listed.setIfInBounds i true).getD j true = true := by
  rcases Decidable.em (i = j) with rfl | hij
  · cases hq : (listed.setIfInBounds i true).getD i true
    · exfalso
      rw [Array.getD_eq_getD_getElem?, Array.getElem?_setIfInBounds] at hq
      simp only [if_true] at hq
      split at hq <;> simp at hq
    · rfl
  · rwa [getD_set_ne true hij]
theorem wpOp_of {i : Nat} {listed : Array Bool} {a : Act} {w : World} {K : Act → World → Prop} (hr : i ∈ Region.ready md ops listed)
    (h : ∀ oi, ops[i]? = some oi → if Region.wanted oi (yielded ops a.tmps) then Oper.wp P oi a w K Q else K (a.put oi.dst undef) w) : wpOp P ops Q i K a w := by
  obtain ⟨_, oi, hi, _⟩ := mem_ready.1 hr
  have h := h oi hi
  unfold wpOp
  simp only [hi]
  by_cases hwt : Region.wanted oi (yielded ops a.tmps) = true
  · rw [if_pos hwt] at h ⊢; exact .inl h
  · rw [if_neg hwt] at h ⊢; exact h
theorem wpAny_alone (i : Nat) {fuel : Nat} {listed : Array Bool} {a : Act} {w : World} (hr : Region.ready md ops listed = [i])
    (h : ∀ oi, ops[i]? = some oi → if Region.wanted oi (yielded ops a.tmps) then Oper.wp P oi a w (fun a' w' => wpAny P md ops Q fuel (listed.setIfInBounds i true) a' w') Q else wpAny P md ops Q fuel (listed.setIfInBounds i true) (a.put oi.dst undef) w) : wpAny P md ops Q (fuel + 1) listed a w := by
  have hm : i ∈ Region.ready md ops listed := by rw [hr]; simp
  refine ⟨fun h0 => (by rw [hr] at h0; cases h0), fun j hj => ?_⟩
  rw [hr, List.mem_singleton] at hj
  subst hj
  exact wpOp_of hm h
end
theorem own_ne {w : World} {b b' s s' n n' : Nat} {e e' : TypeId} {v v' : Value} {xs xs' : List Value} (h : w.ownsRow b e s v n xs) (h' : w.ownsRow b' e' s' v' n' xs') (hne : e ≠ e') : v.ownBlock = none ∨ v.ownBlock ≠ v'.ownBlock := by
  rcases hv : v.ownBlock with _ | g
  · exact .inl rfl
  · refine .inr fun eq => ?_
    obtain ⟨_, cur, hg⟩ := owns_lt h hv
    obtain ⟨_, cur', hg'⟩ := owns_lt h' eq.symm
    rw [hg] at hg'
    simp only [Option.some.injEq, Obj.cells.injEq] at hg'
    exact hne hg'.2.1
theorem box_own_ne {w : World} {g b s n : Nat} {t e : TypeId} {cs : Array Value} {v : Value} {xs : List Value} (h : Box w g t cs) (h' : w.ownsRow b e s v n xs) (hne : t ≠ e) : some g ≠ v.ownBlock := by
  intro eq
  obtain ⟨_, cur', hg'⟩ := owns_lt h' eq.symm
  rw [show w.heap[g]? = _ from h] at hg'
  simp only [Option.some.injEq, Obj.cells.injEq] at hg'
  exact hne hg'.2.1
theorem Box.kept {w w' : World} {row : Option Nat} {g : Nat} {t : TypeId} {cs : Array Value} (h : Box w g t cs) (hg : w.grownBy w' row) (hne : some g ≠ row) : Box w' g t cs := (hg.block g h.lt hne).trans h
theorem none_ok (v : Value) : v.ownBlock = none ∨ v.ownBlock ≠ none := by cases v.ownBlock <;> simp
/-- A store into a box that holds a slice touches no schema. -/
theorem string_not {W : World} {g : Nat} {t : TypeId} {a : Option Addr} {n c b o : Nat} {s : ByteArray} (hB : Box W g t #[.slice a n c]) (h : W.cell? ⟨b, o, none⟩ = some (.string s)) : b ≠ g := by
  rintro rfl
  simp only [World.cell?, show W.heap[b]? = _ from hB] at h
  rcases o with _ | o <;> simp at h
theorem flds_store {W : World} {g n₀ : Nat} {t : TypeId} {a : Option Addr} {n c : Nat} {v : Value} (hB : Box W g t #[.slice a n c]) {fa : Option Addr} {fs : List Fd} : Flds n₀ W fa fs → Flds n₀ (W.setCell ⟨g, 0, none⟩ v) fa fs
  | .inl e => .inl e
  | .inr ⟨b, off, e, hb, hc⟩ => .inr ⟨b, off, e, hb, fun j hj => by
      obtain ⟨h1, h2⟩ := hc j hj
      have hne := string_not hB h1
      have hk : (W.setCell ⟨g, 0, none⟩ v).heap[b]? = W.heap[b]? := setCell_block _ _ _ (fun e => hne e.symm)
      exact ⟨(World.cell?_of_block hk).trans h1, (World.cell?_of_block hk).trans h2⟩⟩
theorem typs_store {W : World} {g : Nat} {t : TypeId} {a : Option Addr} {n c : Nat} {v : Value} (hB : Box W g t #[.slice a n c]) {ta : Option Addr} {ts : List Ty} (hT : Typs W.heap.size W ta ts) : Typs (W.setCell ⟨g, 0, none⟩ v).heap.size (W.setCell ⟨g, 0, none⟩ v) ta ts := by
  rw [show (W.setCell ⟨g, 0, none⟩ v).heap.size = W.heap.size by simp]
  rcases hT with e | ⟨b, off, e, hb, hc⟩
  · exact .inl e
  · refine .inr ⟨b, off, e, hb, fun j hj => ?_⟩
    obtain ⟨h1, a', c', h2, h3, h4⟩ := hc j hj
    have hne := string_not hB h1
    have hk : (W.setCell ⟨g, 0, none⟩ v).heap[b]? = W.heap[b]? := setCell_block _ _ _ (fun e => hne e.symm)
    exact ⟨(World.cell?_of_block hk).trans h1, a', c', (World.cell?_of_block hk).trans h2, flds_store hB h3, h4⟩
/-- What the document's Add leaves. -/
def RLeft (r : Int) (Bp sc lc : Nat) (sa la : Option Addr) (xs : List Sw) (ts : List Ty) (cs : List Ch) (c : Ch) (W : World) : Prop := if r = 0 then ∃ sa' la' sc' lc' xs', RCh W.heap.size W Bp sa' la' sc' lc' xs' ts (cs ++ [c]) else RCh W.heap.size W Bp sa la sc lc xs ts cs
/-- What holds at each place of the region in which Add applies a change. -/
def Inv3 (w V : World) (Bp lc : Nat) (la : Option Addr) (cs : List Ch) (c : Ch) (vs : List Ty) (listed : Array Bool) (a : Act) (w' : World) : Prop :=
  (listed.size = 10 ∧ listed.getD 0 true = true ∧ (listed.getD 4 true = true → listed.getD 3 true = true) ∧ (listed.getD 5 true = true → listed.getD 3 true = true) ∧ (listed.getD 6 true = true → listed.getD 3 true = true) ∧ (listed.getD 8 true = true → listed.getD 3 true = true) ∧ (listed.getD 8 true = true → listed.getD 7 true = true)) ∧ ∃ (v5 v6 v13 v15 v16 v17 v18 v19 : Value) (a3 : Option Addr) (c3 : Nat), a = { tmps := #[.pointer (some ⟨Bp, 0, none⟩), c.v, undef, .pointer (some ⟨w.heap.size, 0, none⟩), .int .i64 0, v5, v6, .pointer (some ⟨Bp, 0, none⟩), .pointer (some ⟨Bp, 0, none⟩), .pointer (some ⟨Bp, 1, none⟩), .slice la cs.length lc, .int .i64 cs.length, .bool (decide ((20 : Int) ≤ cs.length)), v13, .pointer (some ⟨Bp, 0, none⟩), v15, v16, v17, v18, v19, undef, undef, undef, undef, undef, undef, undef, undef, undef, undef, undef, undef, undef, undef, undef, undef, undef, undef, undef, undef, undef, undef, undef, undef, undef], defers := [] } ∧ Below V.heap.size V w' ∧
    (listed.getD 1 true = true → ∃ a1 c1, v15 = .agg #[.slice a1 vs.length c1] ∧ Typs w'.heap.size w' a1 vs) ∧
    (listed.getD 2 true = true → v16 = c.v) ∧
    (listed.getD 3 true = true → v17 = .tuple #[.agg #[.slice a3 (appT vs c).length c3], .int .i64 (refE vs c)] ∧ Typs w'.heap.size w' a3 (appT vs c)) ∧
    (listed.getD 4 true = true → v13 = v17) ∧
    (listed.getD 5 true = true → v18 = .agg #[.slice a3 (appT vs c).length c3]) ∧
    (listed.getD 6 true = true → v19 = .int .i64 (refE vs c)) ∧
    (listed.getD 7 true = true → listed.getD 8 true = false → ∃ g, v5 = .pointer (some ⟨g, 0, none⟩) ∧ V.heap.size ≤ g ∧ Box w' g 24 #[.slice none 0 0]) ∧
    (listed.getD 8 true = true → ∃ g, v5 = .pointer (some ⟨g, 0, none⟩) ∧ V.heap.size ≤ g ∧ Box w' g 24 #[.slice a3 (appT vs c).length c3]) ∧
    (listed.getD 9 true = true → v6 = .int .i64 (refE vs c))

theorem typs_storeN {W : World} {g k : Nat} {v : Value} (hno : ∀ o s, W.cell? ⟨g, o, none⟩ ≠ some (.string s)) {n₀ : Nat} {ta : Option Addr} {ts : List Ty} (hT : Typs n₀ W ta ts) : Typs n₀ (W.setCell ⟨g, k, none⟩ v) ta ts := by
  rcases hT with e | ⟨b, off, e, hb, hc⟩
  · exact .inl e
  · refine .inr ⟨b, off, e, hb, fun j hj => ?_⟩
    obtain ⟨h1, a', c', h2, h3, h4⟩ := hc j hj
    have hne : g ≠ b := fun e => by subst e; exact hno _ _ h1
    have hk : (W.setCell ⟨g, k, none⟩ v).heap[b]? = W.heap[b]? := setCell_block _ _ _ hne
    refine ⟨(World.cell?_of_block hk).trans h1, a', c', (World.cell?_of_block hk).trans h2, ?_, h4⟩
    rcases h3 with e | ⟨b2, off2, e2, hb2, hc2⟩
    · exact .inl e
    · refine .inr ⟨b2, off2, e2, hb2, fun i hi => ?_⟩
      obtain ⟨q1, q2⟩ := hc2 i hi
      have hne2 : g ≠ b2 := fun e => by subst e; exact hno _ _ q1
      have hk2 : (W.setCell ⟨g, k, none⟩ v).heap[b2]? = W.heap[b2]? := setCell_block _ _ _ hne2
      exact ⟨(World.cell?_of_block hk2).trans q1, (World.cell?_of_block hk2).trans q2⟩
theorem two_no {W : World} {g : Nat} {t : TypeId} {a b : Option Addr} {n c m d : Nat} (hB : Box W g t #[.slice a n c, .slice b m d]) : ∀ o s, W.cell? ⟨g, o, none⟩ ≠ some (.string s) := by
  intro o s h
  simp only [World.cell?, show W.heap[g]? = _ from hB] at h
  rcases o with _ | _ | o <;> simp at h
theorem box_news {W : World} {g : Nat} {t : TypeId} {cs : Array Value} (h : Box W g t cs) : ∀ j u, cs.toList[j]? = some u → W.cell? ((⟨g, 0, none⟩ : Addr).add j) = some u := by
  intro j u hu
  rw [WideShapes.add_plain, Nat.zero_add]
  exact h.at j (by simpa using hu)
theorem newsS_one (xs : List Sw) : ∀ u ∈ newsS xs, u.oneCell' = true := by
  intro u hu
  simp only [newsS, List.mem_map] at hu
  obtain ⟨x, _, rfl⟩ := hu
  rfl
/-- What holds at each place of the region in which Add appends. -/
def Inv6 (w V : World) (Bp g5 sc lc : Nat) (sa la : Option Addr) (xs : List Sw) (cs : List Ch) (c : Ch) (sl u7 u8 u9 u10 u11 u12 u13 u14 u15 u16 u17 u18 u19 u22 u41 u42 u43 u44 : Value) (listed : Array Bool) (a : Act) (w' : World) : Prop :=
  (listed.size = 24 ∧ listed.getD 0 true = true ∧ listed.getD 1 true = true ∧ listed.getD 2 true = true ∧ listed.getD 3 true = true ∧ listed.getD 4 true = true ∧ listed.getD 10 true = true ∧ listed.getD 11 true = true ∧ listed.getD 12 true = true ∧ listed.getD 18 true = false ∧ listed.getD 19 true = false ∧ listed.getD 20 true = false ∧ listed.getD 21 true = false ∧ listed.getD 22 true = false ∧ listed.getD 23 true = false ∧ (listed.getD 17 true = true → listed.getD 16 true = true) ∧ (listed.getD 16 true = true → listed.getD 15 true = true)) ∧ ∃ (v28 v29 v30 v31 v32 v36 v37 v38 v39 v40 : Value), a = { tmps := #[.pointer (some ⟨Bp, 0, none⟩), c.v, undef, .pointer (some ⟨w.heap.size, 0, none⟩), .int .i64 0, .pointer (some ⟨g5, 0, none⟩), .int .i64 0, u7, u8, u9, u10, u11, u12, u13, u14, u15, u16, u17, u18, u19, .int .i64 0, .bool false, u22, .pointer (some ⟨Bp, 0, none⟩), .pointer (some ⟨Bp, 0, none⟩), .pointer (some ⟨Bp, 0, none⟩), .pointer (some ⟨Bp, 0, none⟩), .pointer (some ⟨Bp, 0, none⟩), v28, v29, v30, v31, v32, .pointer (some ⟨Bp, 0, none⟩), .pointer (some ⟨Bp, 0, none⟩), .pointer (some ⟨Bp, 1, none⟩), v36, v37, v38, v39, v40, u41, u42, u43, u44], defers := [] } ∧ Below V.heap.size V w' ∧
    (listed.getD 5 true = true → v28 = .slice sa (cs.length + 1) sc) ∧
    (listed.getD 6 true = true → listed.getD 9 true = false → w'.ownsRow V.heap.size 24 1 v29 (cs.length + 1) (newsS xs)) ∧
    (listed.getD 7 true = true → v30 = .agg #[sl]) ∧
    (listed.getD 8 true = true → listed.getD 9 true = false → ∃ g, v31 = .slice (some ⟨g, 0, none⟩) 1 1 ∧ Box w' g 24 #[sl]) ∧
    (listed.getD 9 true = true → w'.ownsRow V.heap.size 24 1 v32 (cs.length + 1 + 1) (newsS xs ++ [sl])) ∧
    (listed.getD 13 true = true → v36 = .slice la cs.length lc) ∧
    (listed.getD 14 true = true → listed.getD 17 true = false → w'.ownsRow V.heap.size 42 7 v37 cs.length (newsC cs)) ∧
    (listed.getD 15 true = true → v38 = c.v) ∧
    (listed.getD 16 true = true → listed.getD 17 true = false → ∃ g, v39 = .slice (some ⟨g, 0, none⟩) 1 1 ∧ Box w' g 42 c.cs) ∧
    (listed.getD 17 true = true → w'.ownsRow V.heap.size 42 7 v40 (cs.length + 1) (newsC cs ++ c.cs.toList))

set_option maxRecDepth 100000 in
set_option maxHeartbeats 8000000 in
theorem rchAdd_c (Bp sc lc : Nat) (sa la : Option Addr) (xs : List Sw) (ts : List Ty) (cs : List Ch) (c : Ch) (hS : Sch ts) (h20 : cs.length ≤ 20) (w : World) (hC : RCh w.heap.size w Bp sa la sc lc xs ts cs) :
    Calls Tryz.prog 12 #[.pointer (some ⟨Bp, 0, none⟩), c.v] w fun e w' => e = .returned (.int .i64 (addR ts cs c)) ∧ RLeft (addR ts cs c) Bp sc lc sa la xs ts cs c w' ∧ KeepC (fun k => k = Bp) w w' ∧ ∀ n, n ≤ Bp → Below n w w' := by
  obtain ⟨W0, hW0⟩ : ∃ W0, W0 = w.alloc (.cells c.cs 42) := ⟨_, rfl⟩
  have b0 : Below w.heap.size w W0 := by rw [hW0]; exact (Below.refl _ _).alloc (Nat.le_refl _) _
  have x3 : Box W0 w.heap.size 42 c.cs := by rw [hW0]; exact Box.new _ _ _
  have C0 := (hC.on b0).mono b0.size
  have e0 := hide (show W0.heap.size = w.heap.size + 1 by rw [hW0]; simp)
  have hW0' := hide hW0
  clear hW0
  obtain ⟨hp0, hp1⟩ := C0.box.two
  have err : ∀ W, Below w.heap.size w W → ∀ r, addR ts cs c = r → r ≠ 0 → RLeft (addR ts cs c) Bp sc lc sa la xs ts cs c W ∧ KeepC (fun k => k = Bp) w W ∧ ∀ n, n ≤ Bp → Below n w W := fun W hb r hr h0 => by
    unfold RLeft
    rw [if_neg (by rw [hr]; exact h0)]
    exact ⟨(hC.on hb).mono hb.size, KeepC.below hb, fun n hn => hb.mono (by have := hC.lt; omega)⟩
  replace err := hide err
  go_enter Tryz.func12, Tryz.ntmps12
  go_upto_region 1 with fail
  rw [show Obj.cells #[Value.int .i64 c.k, .string c.t.1, .string c.f.1, .string c.o.1, .int .i64 c.dk, .int .i64 c.dn, .string c.ds.1] 42 = Obj.cells c.cs 42 from rfl, ← unhide hW0']
  clear hW0'
  by_cases hl : 20 ≤ cs.length
  · have hl' : (20 : Int) ≤ cs.length := by omega
    have hr : addR ts cs c = 12 := by unfold addR; rw [if_pos hl]
    have herr := hide (unhide err W0 b0 12 hr (by decide))
    replace hr := hide hr
    go_wp2_with fail
    go_ret
    exact ⟨by rw [unhide hr]; rfl, unhide herr⟩
  have hl' : (cs.length : Int) < 20 := by omega
  have hr : addR ts cs c = refE (vers ts cs cs.length) c := by unfold addR; rw [if_neg hl]
  go_upto_region 3 with fail
  go_cut [5, 6] (fun v5 v6 wx => ∃ g a' c', v5 = .pointer (some ⟨g, 0, none⟩) ∧ v6 = .int .i64 (refE (vers ts cs cs.length) c) ∧ w.heap.size + 1 ≤ g ∧ Box wx g 24 #[.slice a' (appT (vers ts cs cs.length) c).length c'] ∧ Typs wx.heap.size wx a' (appT (vers ts cs cs.length) c) ∧ Below W0.heap.size W0 wx)
  case first =>
    have hmx : Tryz.prog.follows .mixedOrders = true := by kernel_rfl
    obtain ⟨vs, hvs⟩ : ∃ vs, vs = vers ts cs cs.length := ⟨_, rfl⟩
    have hSv : Sch vs := by rw [hvs]; exact sch_vers hS cs _
    obtain ⟨V, hV⟩ : ∃ V, V = ({ heap := W0.heap, tape := W0.tape, drawn := W0.drawn + 1, os := W0.os, output := W0.output } : World) := ⟨_, rfl⟩
    have bV : Below W0.heap.size W0 V := by rw [hV]; exact (Below.refl _ _).drew
    have eV : V.heap.size = W0.heap.size := by rw [hV]
    refine wp_region_any hmx ?_
    rw [← hV]
    clear hV
    replace hvs := hide hvs
    refine wpAny_take (i := 0) (v := .pointer (some ⟨Bp, 0, none⟩)) rfl (by kernel_rfl) (by kernel_rfl) (by kernel_rfl) (fun _ _ _ h => h) (Or.inl ⟨by rfl, fun w => by go_simp⟩) ?_
    refine wpAny_inv (fun listed a w' => Inv3 w V Bp lc la cs c vs listed a w') ?hstep ?hdone _ _ _ _ (Nat.le_of_ble_eq_true (by kernel_rfl)) ?init
    case init =>
      unfold Inv3
      exact ⟨⟨by kernel_rfl, by kernel_rfl, fun h => absurd (h.symm.trans (show _ = false by kernel_rfl)) (by decide), fun h => absurd (h.symm.trans (show _ = false by kernel_rfl)) (by decide), fun h => absurd (h.symm.trans (show _ = false by kernel_rfl)) (by decide), fun h => absurd (h.symm.trans (show _ = false by kernel_rfl)) (by decide), fun h => absurd (h.symm.trans (show _ = false by kernel_rfl)) (by decide)⟩, undef, undef, undef, undef, undef, undef, undef, undef, none, 0, rfl, Below.refl _ _, fun h => absurd (h.symm.trans (show _ = false by kernel_rfl)) (by decide), fun h => absurd (h.symm.trans (show _ = false by kernel_rfl)) (by decide), fun h => absurd (h.symm.trans (show _ = false by kernel_rfl)) (by decide), fun h => absurd (h.symm.trans (show _ = false by kernel_rfl)) (by decide), fun h => absurd (h.symm.trans (show _ = false by kernel_rfl)) (by decide), fun h => absurd (h.symm.trans (show _ = false by kernel_rfl)) (by decide), fun h _ => absurd (h.symm.trans (show _ = false by kernel_rfl)) (by decide), fun h => absurd (h.symm.trans (show _ = false by kernel_rfl)) (by decide), fun h => absurd (h.symm.trans (show _ = false by kernel_rfl)) (by decide)⟩
    case hstep =>
      rintro listed a w' i hI hr
      unfold Inv3 at hI
      obtain ⟨⟨hs, h0, k4, k5, k6, k8, k87⟩, v5, v6, v13, v15, v16, v17, v18, v19, a3, c3, rfl, G, f1, f2, f3, f4, f5, f6, f7, f8, f9⟩ := hI
      replace f1 := hide f1
      replace f2 := hide f2
      replace f3 := hide f3
      replace f4 := hide f4
      replace f5 := hide f5
      replace f6 := hide f6
      replace f7 := hide f7
      replace f8 := hide f8
      replace f9 := hide f9
      replace k4 := hide k4
      replace k5 := hide k5
      replace k6 := hide k6
      replace k8 := hide k8
      replace k87 := hide k87
      obtain ⟨hun, oi, hoi, -⟩ := mem_ready.1 hr
      have hi : i < 10 := (Array.getElem?_eq_some_iff.1 hoi).1
      clear hoi oi
      have hz : ∀ i, (listed.setIfInBounds i true).size = 10 := fun i => by rw [Array.size_setIfInBounds]; exact hs
      have bw : Below w.heap.size w w' := (b0.trans (bV.mono b0.size)).trans (G.mono (by rw [eV]; exact b0.size))
      obtain rfl | rfl | rfl | rfl | rfl | rfl | rfl | rfl | rfl | rfl : i = 0 ∨ i = 1 ∨ i = 2 ∨ i = 3 ∨ i = 4 ∨ i = 5 ∨ i = 6 ∨ i = 7 ∨ i = 8 ∨ i = 9 := by omega
      · rw [h0] at hun; cases hun
      · refine wpOp_of hr (fun oi ho => ?_)
        simp only [List.getElem?_toArray, List.getElem?_cons_succ, List.getElem?_cons_zero, Option.some.injEq] at ho
        subst ho
        go_simp
        refine (last_c Bp sc lc sa la xs ts cs h20 w' ((hC.on bw).mono bw.size)).mono ?_
        rintro e w2 ⟨a1, c1, rfl, hT1, hb⟩
        rw [← unhide hvs] at hT1 ⊢
        go_simp
        unfold Inv3
        exact ⟨⟨hz 1, now_yes h0, fun h => now_yes ((unhide k4) (was (by decide) h)), fun h => now_yes ((unhide k5) (was (by decide) h)), fun h => now_yes ((unhide k6) (was (by decide) h)), fun h => now_yes ((unhide k8) (was (by decide) h)), fun h => now_yes ((unhide k87) (was (by decide) h))⟩, v5, v6, v13, _, v16, v17, v18, v19, a3, c3, rfl, G.trans (hb.mono G.size), fun _ => ⟨a1, c1, rfl, hT1⟩, fun h => (unhide f2) (was (by decide) h), fun h => ⟨((unhide f3) (was (by decide) h)).1, ((unhide f3) (was (by decide) h)).2.on hb⟩, fun h => (unhide f4) (was (by decide) h), fun h => (unhide f5) (was (by decide) h), fun h => (unhide f6) (was (by decide) h), fun h h' => (by obtain ⟨g, e, hg, hB⟩ := (unhide f7) (was (by decide) h) (was_no (by decide) h'); exact ⟨g, e, hg, hB.on hb hB.lt⟩), fun h => (by obtain ⟨g, e, hg, hB⟩ := (unhide f8) (was (by decide) h); exact ⟨g, e, hg, hB.on hb hB.lt⟩), fun h => (unhide f9) (was (by decide) h)⟩
      · refine wpOp_of hr (fun oi ho => ?_)
        simp only [List.getElem?_toArray, List.getElem?_cons_succ, List.getElem?_cons_zero, Option.some.injEq] at ho
        subst ho
        obtain ⟨hc0, hc1, hc2, hc3, hc4, hc5, hc6⟩ := (x3.on (bV.trans (G.mono (by omega))) x3.lt).seven
        go_simp
        unfold Inv3
        exact ⟨⟨hz 2, now_yes h0, fun h => now_yes ((unhide k4) (was (by decide) h)), fun h => now_yes ((unhide k5) (was (by decide) h)), fun h => now_yes ((unhide k6) (was (by decide) h)), fun h => now_yes ((unhide k8) (was (by decide) h)), fun h => now_yes ((unhide k87) (was (by decide) h))⟩, v5, v6, v13, v15, _, v17, v18, v19, a3, c3, rfl, G, fun h => (unhide f1) (was (by decide) h), fun _ => rfl, fun h => (unhide f3) (was (by decide) h), fun h => (unhide f4) (was (by decide) h), fun h => (unhide f5) (was (by decide) h), fun h => (unhide f6) (was (by decide) h), fun h h' => (unhide f7) (was (by decide) h) (was_no (by decide) h'), fun h => (unhide f8) (was (by decide) h), fun h => (unhide f9) (was (by decide) h)⟩
      · refine wpOp_of hr (fun oi ho => ?_)
        simp only [List.getElem?_toArray, List.getElem?_cons_succ, List.getElem?_cons_zero, Option.some.injEq] at ho
        subst ho
        obtain ⟨a1, c1, rfl, hT1⟩ := (unhide f1) (ready_dep hr 1 (by kernel_rfl))
        obtain rfl := (unhide f2) (ready_dep hr 2 (by kernel_rfl))
        go_simp
        refine (refApply_c a1 c1 vs c hSv w' hT1).mono ?_
        rintro e w2 ⟨a2, c2, rfl, hT2, hb⟩
        go_simp
        unfold Inv3
        exact ⟨⟨hz 3, now_yes h0, fun _ => getD_set_same hun, fun _ => getD_set_same hun, fun _ => getD_set_same hun, fun _ => getD_set_same hun, fun h => now_yes ((unhide k87) (was (by decide) h))⟩, v5, v6, v13, _, _, _, v18, v19, a2, c2, rfl, G.trans (hb.mono G.size), fun _ => ⟨a1, c1, rfl, hT1.on hb⟩, fun _ => rfl, fun _ => ⟨rfl, hT2⟩, fun h => (by rw [(unhide k4) (was (by decide) h)] at hun; cases hun), fun h => (by rw [(unhide k5) (was (by decide) h)] at hun; cases hun), fun h => (by rw [(unhide k6) (was (by decide) h)] at hun; cases hun), fun h h' => (by obtain ⟨g, e, hg, hB⟩ := (unhide f7) (was (by decide) h) (was_no (by decide) h'); exact ⟨g, e, hg, hB.on hb hB.lt⟩), fun h => (by rw [(unhide k8) (was (by decide) h)] at hun; cases hun), fun h => (unhide f9) (was (by decide) h)⟩
      · refine wpOp_of hr (fun oi ho => ?_)
        simp only [List.getElem?_toArray, List.getElem?_cons_succ, List.getElem?_cons_zero, Option.some.injEq] at ho
        subst ho
        have d3 := ready_dep hr 3 (by kernel_rfl)
        go_simp
        unfold Inv3
        exact ⟨⟨hz 4, now_yes h0, fun _ => now_yes d3, fun h => now_yes ((unhide k5) (was (by decide) h)), fun h => now_yes ((unhide k6) (was (by decide) h)), fun h => now_yes ((unhide k8) (was (by decide) h)), fun h => now_yes ((unhide k87) (was (by decide) h))⟩, v5, v6, _, v15, v16, v17, v18, v19, a3, c3, rfl, G, fun h => (unhide f1) (was (by decide) h), fun h => (unhide f2) (was (by decide) h), fun h => (unhide f3) (was (by decide) h), fun _ => rfl, fun h => (unhide f5) (was (by decide) h), fun h => (unhide f6) (was (by decide) h), fun h h' => (unhide f7) (was (by decide) h) (was_no (by decide) h'), fun h => (unhide f8) (was (by decide) h), fun h => (unhide f9) (was (by decide) h)⟩
      · refine wpOp_of hr (fun oi ho => ?_)
        simp only [List.getElem?_toArray, List.getElem?_cons_succ, List.getElem?_cons_zero, Option.some.injEq] at ho
        subst ho
        have d4 := ready_dep hr 4 (by kernel_rfl)
        have d3 := (unhide k4) d4
        obtain rfl := (unhide f4) d4
        obtain rfl := ((unhide f3) d3).1
        go_simp
        unfold Inv3
        exact ⟨⟨hz 5, now_yes h0, fun h => now_yes ((unhide k4) (was (by decide) h)), fun _ => now_yes d3, fun h => now_yes ((unhide k6) (was (by decide) h)), fun h => now_yes ((unhide k8) (was (by decide) h)), fun h => now_yes ((unhide k87) (was (by decide) h))⟩, v5, v6, _, v15, v16, _, _, v19, a3, c3, rfl, G, fun h => (unhide f1) (was (by decide) h), fun h => (unhide f2) (was (by decide) h), fun h => ⟨rfl, ((unhide f3) (was (by decide) h)).2⟩, fun _ => rfl, fun _ => rfl, fun h => (unhide f6) (was (by decide) h), fun h h' => (unhide f7) (was (by decide) h) (was_no (by decide) h'), fun h => (unhide f8) (was (by decide) h), fun h => (unhide f9) (was (by decide) h)⟩
      · refine wpOp_of hr (fun oi ho => ?_)
        simp only [List.getElem?_toArray, List.getElem?_cons_succ, List.getElem?_cons_zero, Option.some.injEq] at ho
        subst ho
        have d4 := ready_dep hr 4 (by kernel_rfl)
        have d3 := (unhide k4) d4
        obtain rfl := (unhide f4) d4
        obtain rfl := ((unhide f3) d3).1
        go_simp
        unfold Inv3
        exact ⟨⟨hz 6, now_yes h0, fun h => now_yes ((unhide k4) (was (by decide) h)), fun h => now_yes ((unhide k5) (was (by decide) h)), fun _ => now_yes d3, fun h => now_yes ((unhide k8) (was (by decide) h)), fun h => now_yes ((unhide k87) (was (by decide) h))⟩, v5, v6, _, v15, v16, _, v18, _, a3, c3, rfl, G, fun h => (unhide f1) (was (by decide) h), fun h => (unhide f2) (was (by decide) h), fun h => ⟨rfl, ((unhide f3) (was (by decide) h)).2⟩, fun _ => rfl, fun h => (unhide f5) (was (by decide) h), fun _ => rfl, fun h h' => (unhide f7) (was (by decide) h) (was_no (by decide) h'), fun h => (unhide f8) (was (by decide) h), fun h => (unhide f9) (was (by decide) h)⟩
      · refine wpOp_of hr (fun oi ho => ?_)
        simp only [List.getElem?_toArray, List.getElem?_cons_succ, List.getElem?_cons_zero, Option.some.injEq] at ho
        subst ho
        have hb : Below w'.heap.size w' (w'.alloc (.cells #[.slice none 0 0] 24)) := (Below.refl _ _).alloc (Nat.le_refl _) _
        go_simp
        unfold Inv3
        exact ⟨⟨hz 7, now_yes h0, fun h => now_yes ((unhide k4) (was (by decide) h)), fun h => now_yes ((unhide k5) (was (by decide) h)), fun h => now_yes ((unhide k6) (was (by decide) h)), fun h => now_yes ((unhide k8) (was (by decide) h)), fun _ => getD_set_same hun⟩, _, v6, v13, v15, v16, v17, v18, v19, a3, c3, rfl, G.trans (hb.mono G.size), fun h => (by obtain ⟨a1, c1, e, hT⟩ := (unhide f1) (was (by decide) h); exact ⟨a1, c1, e, hT.on hb⟩), fun h => (unhide f2) (was (by decide) h), fun h => ⟨((unhide f3) (was (by decide) h)).1, ((unhide f3) (was (by decide) h)).2.on hb⟩, fun h => (unhide f4) (was (by decide) h), fun h => (unhide f5) (was (by decide) h), fun h => (unhide f6) (was (by decide) h), fun _ _ => ⟨w'.heap.size, rfl, G.size, Box.new _ _ _⟩, fun h => (by rw [(unhide k87) (was (by decide) h)] at hun; cases hun), fun h => (unhide f9) (was (by decide) h)⟩
      · refine wpOp_of hr (fun oi ho => ?_)
        simp only [List.getElem?_toArray, List.getElem?_cons_succ, List.getElem?_cons_zero, Option.some.injEq] at ho
        subst ho
        have d5 := ready_dep hr 5 (by kernel_rfl)
        have d7 := ready_dep hr 7 (by kernel_rfl)
        have d3 := (unhide k5) d5
        obtain rfl := (unhide f5) d5
        obtain ⟨g, rfl, hg, hB⟩ := (unhide f7) d7 hun
        obtain ⟨hb0, hbf⟩ := hB.one
        go_simp
        unfold Inv3
        exact ⟨⟨hz 8, now_yes h0, fun h => now_yes ((unhide k4) (was (by decide) h)), fun h => now_yes ((unhide k5) (was (by decide) h)), fun h => now_yes ((unhide k6) (was (by decide) h)), fun _ => now_yes d3, fun _ => now_yes d7⟩, _, v6, v13, v15, v16, v17, _, v19, a3, c3, rfl, G.setCell (p := ⟨g, 0, none⟩) hg _, fun h => (by obtain ⟨a1, c1, e, hT⟩ := (unhide f1) (was (by decide) h); exact ⟨a1, c1, e, typs_store hB hT⟩), fun h => (unhide f2) (was (by decide) h), fun h => ⟨((unhide f3) (was (by decide) h)).1, typs_store hB ((unhide f3) (was (by decide) h)).2⟩, fun h => (unhide f4) (was (by decide) h), fun _ => rfl, fun h => (unhide f6) (was (by decide) h), fun _ h' => (by rw [getD_set_same hun] at h'; cases h'), fun _ => ⟨g, rfl, hg, hB.set 0 _⟩, fun h => (unhide f9) (was (by decide) h)⟩
      · refine wpOp_of hr (fun oi ho => ?_)
        simp only [List.getElem?_toArray, List.getElem?_cons_succ, List.getElem?_cons_zero, Option.some.injEq] at ho
        subst ho
        have d6 := ready_dep hr 6 (by kernel_rfl)
        obtain rfl := (unhide f6) d6
        go_simp
        unfold Inv3
        exact ⟨⟨hz 9, now_yes h0, fun h => now_yes ((unhide k4) (was (by decide) h)), fun h => now_yes ((unhide k5) (was (by decide) h)), fun h => now_yes ((unhide k6) (was (by decide) h)), fun h => now_yes ((unhide k8) (was (by decide) h)), fun h => now_yes ((unhide k87) (was (by decide) h))⟩, v5, _, v13, v15, v16, v17, v18, _, a3, c3, rfl, G, fun h => (unhide f1) (was (by decide) h), fun h => (unhide f2) (was (by decide) h), fun h => (unhide f3) (was (by decide) h), fun h => (unhide f4) (was (by decide) h), fun h => (unhide f5) (was (by decide) h), fun _ => rfl, fun h h' => (unhide f7) (was (by decide) h) (was_no (by decide) h'), fun h => (unhide f8) (was (by decide) h), fun _ => rfl⟩
    case hdone =>
      rintro listed a w' hI hr
      unfold Inv3 at hI
      obtain ⟨⟨hs, -⟩, v5, v6, v13, v15, v16, v17, v18, v19, a3, c3, rfl, G, -, -, f3, -, -, -, -, f8, f9⟩ := hI
      have al := ready_nil (by kernel_rfl) hs hr
      obtain ⟨-, hT⟩ := f3 (al 3 (Nat.le_of_ble_eq_true (by kernel_rfl)))
      obtain ⟨g, rfl, hg, hB⟩ := f8 (al 8 (Nat.le_of_ble_eq_true (by kernel_rfl)))
      obtain rfl := f9 (al 9 (Nat.le_of_ble_eq_true (by kernel_rfl)))
      clear f3 f8 f9 al hr
      dsimp only
      go_wp2_with fail
      go_meet
      case rel =>
        rw [← unhide hvs]
        exact ⟨g, a3, c3, rfl, rfl, by have := unhide e0; omega, hB, hT, bV.trans (G.mono (by omega))⟩
  case rest =>
    obtain ⟨g5, a5, c5, rfl, rfl, hg5, hB5, hT5, hb⟩ := hcut
    have bwc : Below w.heap.size w wc := b0.trans (hb.mono b0.size)
    by_cases hr0 : refE (vers ts cs cs.length) c = 0
    case neg =>
      have herr := hide (unhide err wc bwc _ hr hr0)
      obtain ⟨r, hrr⟩ : ∃ r, r = refE (vers ts cs cs.length) c := ⟨_, rfl⟩
      rw [← hrr] at hr0 ⊢
      replace hr := hide hr
      replace hrr := hide hrr
      go_wp2_with fail
      go_ret
      exact ⟨by rw [unhide hr, ← unhide hrr]; rfl, unhide herr⟩
    rw [hr0]
    rw [hr0] at hr
    obtain ⟨us, hus⟩ : ∃ us, us = appT (vers ts cs cs.length) c := ⟨_, rfl⟩
    rw [← hus] at hB5 hT5
    replace hus := hide hus
    replace hr := hide hr
    clear hr0
    obtain ⟨sl, esl⟩ : ∃ sl, sl = Value.slice a5 us.length c5 := ⟨_, rfl⟩
    rw [← esl] at hB5
    have hsl : sl.oneCell' = true := by rw [esl]; rfl
    replace esl := hide esl
    go_upto_region 6 with fail
    have hmx : Tryz.prog.follows .mixedOrders = true := by kernel_rfl
    obtain ⟨V, hV⟩ : ∃ V, V = ({ heap := wc.heap, tape := wc.tape, drawn := wc.drawn + 1, os := wc.os, output := wc.output } : World) := ⟨_, rfl⟩
    have bV : Below wc.heap.size wc V := by rw [hV]; exact (Below.refl _ _).drew
    have eV : V.heap.size = wc.heap.size := by rw [hV]
    refine wp_region_any hmx ?_
    rw [← hV]
    clear hV
    obtain ⟨i0, hi0, hz0, hz1, hz2⟩ := info_parts infoSch
    obtain ⟨j0, hj0, hy0, hy1, hy2⟩ := info_parts infoCh
    have bwV := bwc.trans (bV.mono bwc.size)
    have hBx := (hC.on bwV).box
    have hB3 := x3.on (hb.trans (bV.mono hb.size)) x3.lt
    have hB5 := hB5.on bV hB5.lt
    have hRS := hC.row
    have hRL := hC.chs
    refine wpAny_take (i := 0) (v := .pointer (some ⟨Bp, 0, none⟩)) rfl (by kernel_rfl) (by kernel_rfl) (by kernel_rfl) (fun _ _ _ h => h) (Or.inl ⟨by rfl, fun w => by go_simp⟩) ?_
    refine wpAny_take (i := 1) (v := .pointer (some ⟨Bp, 0, none⟩)) rfl (by kernel_rfl) (by kernel_rfl) (by kernel_rfl) (fun _ _ _ h => h) (Or.inl ⟨by rfl, fun w => by go_simp⟩) ?_
    refine wpAny_take (i := 2) (v := .pointer (some ⟨Bp, 0, none⟩)) rfl (by kernel_rfl) (by kernel_rfl) (by kernel_rfl) (fun _ _ _ h => h) (Or.inl ⟨by rfl, fun w => by go_simp⟩) ?_
    refine wpAny_take (i := 3) (v := .pointer (some ⟨Bp, 0, none⟩)) rfl (by kernel_rfl) (by kernel_rfl) (by kernel_rfl) (fun _ _ _ h => h) (Or.inl ⟨by rfl, fun w => by go_simp⟩) ?_
    refine wpAny_take (i := 4) (v := .pointer (some ⟨Bp, 0, none⟩)) rfl (by kernel_rfl) (by kernel_rfl) (by kernel_rfl) (fun _ _ _ h => h) (Or.inl ⟨by rfl, fun w => by go_simp⟩) ?_
    refine wpAny_take (i := 10) (v := .pointer (some ⟨Bp, 0, none⟩)) rfl (by kernel_rfl) (by kernel_rfl) (by kernel_rfl) (fun _ _ _ h => h) (Or.inl ⟨by rfl, fun w => by go_simp⟩) ?_
    refine wpAny_take (i := 11) (v := .pointer (some ⟨Bp, 0, none⟩)) rfl (by kernel_rfl) (by kernel_rfl) (by kernel_rfl) (fun _ _ _ h => h) (Or.inl ⟨by rfl, fun w => by go_simp⟩) ?_
    refine wpAny_take (i := 12) (v := .pointer (some ⟨Bp, 1, none⟩)) rfl (by kernel_rfl) (by kernel_rfl) (by kernel_rfl) (fun _ _ _ h => h) (Or.inl ⟨by rfl, fun w => by go_simp⟩) ?_
    refine wpAny_until 18 (by kernel_rfl) (Nat.le_of_ble_eq_true (by kernel_rfl)) (fun listed a w' => Inv6 w V Bp g5 sc lc sa la xs cs c sl u7 u8 u9 u10 u11 u12 u13 u14 u15 u16 u17 u18 u19 u22 u41 u42 u43 u44 listed a w') ?hw ?hup ?hstep ?hfin _ _ _ _ (Nat.le_of_ble_eq_true (by kernel_rfl)) ?init
    case hw =>
      intro listed a w' j hI hj hr i hi
      unfold Inv6 at hI
      obtain ⟨⟨-, t0, t1, t2, t3, t4, t10, t11, t12, -, -, -, -, -, -, k17, k16⟩, -⟩ := hI
      obtain ⟨-, oj, hoj, -⟩ := mem_ready.1 hr
      have hj' : j < 24 := (Array.getElem?_eq_some_iff.1 hoj).1
      clear hoj oj
      have d : ∀ i, (decide (i = 5) || decide (i = 6) || decide (i = 7) || decide (i = 8) || decide (i = 9) || decide (i = 13) || decide (i = 14) || decide (i = 17)) = true → listed.getD i true = true := by
        intro i hi
        simp only [Bool.or_eq_true, decide_eq_true_eq] at hi
        obtain rfl | rfl | rfl | rfl | rfl | rfl : j = 18 ∨ j = 19 ∨ j = 20 ∨ j = 21 ∨ j = 22 ∨ j = 23 := by omega
        all_goals
          rcases hi with ((((((rfl | rfl) | rfl) | rfl) | rfl) | rfl) | rfl) | rfl
          all_goals exact ready_dep hr _ (by kernel_rfl)
      obtain rfl | rfl | rfl | rfl | rfl | rfl | rfl | rfl | rfl | rfl | rfl | rfl | rfl | rfl | rfl | rfl | rfl | rfl : i = 0 ∨ i = 1 ∨ i = 2 ∨ i = 3 ∨ i = 4 ∨ i = 5 ∨ i = 6 ∨ i = 7 ∨ i = 8 ∨ i = 9 ∨ i = 10 ∨ i = 11 ∨ i = 12 ∨ i = 13 ∨ i = 14 ∨ i = 15 ∨ i = 16 ∨ i = 17 := by omega
      · exact t0
      · exact t1
      · exact t2
      · exact t3
      · exact t4
      · exact d 5 rfl
      · exact d 6 rfl
      · exact d 7 rfl
      · exact d 8 rfl
      · exact d 9 rfl
      · exact t10
      · exact t11
      · exact t12
      · exact d 13 rfl
      · exact d 14 rfl
      · exact k16 (k17 (d 17 rfl))
      · exact k17 (d 17 rfl)
      · exact d 17 rfl
    case hup =>
      intro listed a w' hI
      unfold Inv6 at hI
      obtain ⟨⟨hs, -, -, -, -, -, -, -, -, n18, n19, n20, n21, n22, n23, -⟩, -⟩ := hI
      refine ⟨hs, fun j hj hj' => ?_⟩
      have hj' : j < 24 := hj'
      obtain rfl | rfl | rfl | rfl | rfl | rfl : j = 18 ∨ j = 19 ∨ j = 20 ∨ j = 21 ∨ j = 22 ∨ j = 23 := by omega
      · exact n18
      · exact n19
      · exact n20
      · exact n21
      · exact n22
      · exact n23
    case init =>
      unfold Inv6
      exact ⟨⟨by kernel_rfl, by kernel_rfl, by kernel_rfl, by kernel_rfl, by kernel_rfl, by kernel_rfl, by kernel_rfl, by kernel_rfl, by kernel_rfl, by kernel_rfl, by kernel_rfl, by kernel_rfl, by kernel_rfl, by kernel_rfl, by kernel_rfl, fun h => absurd (h.symm.trans (show _ = false by kernel_rfl)) (by decide), fun h => absurd (h.symm.trans (show _ = false by kernel_rfl)) (by decide)⟩, u28, u29, u30, u31, u32, u36, u37, u38, u39, u40, rfl, Below.refl _ _, fun h => absurd (h.symm.trans (show _ = false by kernel_rfl)) (by decide), fun h _ => absurd (h.symm.trans (show _ = false by kernel_rfl)) (by decide), fun h => absurd (h.symm.trans (show _ = false by kernel_rfl)) (by decide), fun h _ => absurd (h.symm.trans (show _ = false by kernel_rfl)) (by decide), fun h => absurd (h.symm.trans (show _ = false by kernel_rfl)) (by decide), fun h => absurd (h.symm.trans (show _ = false by kernel_rfl)) (by decide), fun h _ => absurd (h.symm.trans (show _ = false by kernel_rfl)) (by decide), fun h => absurd (h.symm.trans (show _ = false by kernel_rfl)) (by decide), fun h _ => absurd (h.symm.trans (show _ = false by kernel_rfl)) (by decide), fun h => absurd (h.symm.trans (show _ = false by kernel_rfl)) (by decide)⟩
    case hstep =>
      intro listed a w' i hI hi hr
      unfold Inv6 at hI
      obtain ⟨⟨hs, t0, t1, t2, t3, t4, t10, t11, t12, n18, n19, n20, n21, n22, n23, k17, k16⟩, v28, v29, v30, v31, v32, v36, v37, v38, v39, v40, rfl, G, f5, f6, f7, f8, f9, f13, f14, f15, f16, f17⟩ := hI
      replace f5 := hide f5
      replace f6 := hide f6
      replace f7 := hide f7
      replace f8 := hide f8
      replace f9 := hide f9
      replace f13 := hide f13
      replace f14 := hide f14
      replace f15 := hide f15
      replace f16 := hide f16
      replace f17 := hide f17
      have hun := (mem_ready.1 hr).1
      have hz : ∀ i, (listed.setIfInBounds i true).size = 24 := fun i => by rw [Array.size_setIfInBounds]; exact hs
      have bw : Below w.heap.size w w' := bwV.trans (G.mono bwV.size)
      obtain rfl | rfl | rfl | rfl | rfl | rfl | rfl | rfl | rfl | rfl | rfl | rfl | rfl | rfl | rfl | rfl | rfl | rfl : i = 0 ∨ i = 1 ∨ i = 2 ∨ i = 3 ∨ i = 4 ∨ i = 5 ∨ i = 6 ∨ i = 7 ∨ i = 8 ∨ i = 9 ∨ i = 10 ∨ i = 11 ∨ i = 12 ∨ i = 13 ∨ i = 14 ∨ i = 15 ∨ i = 16 ∨ i = 17 := by omega
      · rw [t0] at hun; cases hun
      · rw [t1] at hun; cases hun
      · rw [t2] at hun; cases hun
      · rw [t3] at hun; cases hun
      · rw [t4] at hun; cases hun
      · refine wpOp_of hr (fun oi ho => ?_)
        simp only [List.getElem?_toArray, List.getElem?_cons_succ, List.getElem?_cons_zero, Option.some.injEq] at ho
        subst ho
        obtain ⟨hp0, hp1⟩ := (hBx.on G hBx.lt).two
        go_simp
        unfold Inv6
        exact ⟨⟨hz 5, now_yes t0, now_yes t1, now_yes t2, now_yes t3, now_yes t4, now_yes t10, now_yes t11, now_yes t12, still_no (by decide) n18, still_no (by decide) n19, still_no (by decide) n20, still_no (by decide) n21, still_no (by decide) n22, still_no (by decide) n23, fun h => now_yes (k17 (was (by decide) h)), fun h => now_yes (k16 (was (by decide) h))⟩, _, v29, v30, v31, v32, v36, v37, v38, v39, v40, rfl, G, fun _ => rfl, fun h h' => (unhide f6) (was (by decide) h) (was_no (by decide) h'), fun h => (unhide f7) (was (by decide) h), fun h h' => (unhide f8) (was (by decide) h) (was_no (by decide) h'), fun h => (unhide f9) (was (by decide) h), fun h => (unhide f13) (was (by decide) h), fun h h' => (unhide f14) (was (by decide) h) (was_no (by decide) h'), fun h => (unhide f15) (was (by decide) h), fun h h' => (unhide f16) (was (by decide) h) (was_no (by decide) h'), fun h => (unhide f17) (was (by decide) h)⟩
      · refine wpOp_of hr (fun oi ho => ?_)
        simp only [List.getElem?_toArray, List.getElem?_cons_succ, List.getElem?_cons_zero, Option.some.injEq] at ho
        subst ho
        obtain rfl := (unhide f5) (ready_dep hr 5 (by kernel_rfl))
        refine step_lies w' (by rfl) (.const (.slice none 0 0)) (.tmp 28) 47 (by rfl) V.heap.size 24 i0 (.agg #[.slice none 0 0]) 1 24 Tryz.underlying47 hi0 hz0 hz1 hz2 (by rfl) (by decide) (.slice none 0 0) 0 [] ?q1 (World.ownsRow_nil _ _ _ _) sa (cs.length + 1) sc (newsS xs) ?q2 ((hRS.below bw).lies sc) (newsS_one xs) (by unfold maxLen; omega) (by omega) G.size ?_
        case q1 => go_simp
        case q2 => go_simp
        intro v' w2 ho hg
        rw [Nat.zero_add, List.nil_append] at ho
        unfold Inv6
        exact ⟨⟨hz 6, now_yes t0, now_yes t1, now_yes t2, now_yes t3, now_yes t4, now_yes t10, now_yes t11, now_yes t12, still_no (by decide) n18, still_no (by decide) n19, still_no (by decide) n20, still_no (by decide) n21, still_no (by decide) n22, still_no (by decide) n23, fun h => now_yes (k17 (was (by decide) h)), fun h => now_yes (k16 (was (by decide) h))⟩, _, v', v30, v31, v32, v36, v37, v38, v39, v40, rfl, G.grown hg G.size (fun k hk => by cases hk), fun _ => rfl, fun _ _ => ho, fun h => (unhide f7) (was (by decide) h), fun h h' => (by obtain ⟨g, e, hB⟩ := (unhide f8) (was (by decide) h) (was_no (by decide) h'); exact ⟨g, e, hB.kept hg (Option.some_ne_none g)⟩), fun h => ((unhide f9) (was (by decide) h)).kept hg (none_ok _), fun h => (unhide f13) (was (by decide) h), fun h h' => ((unhide f14) (was (by decide) h) (was_no (by decide) h')).kept hg (none_ok _), fun h => (unhide f15) (was (by decide) h), fun h h' => (by obtain ⟨g, e, hB⟩ := (unhide f16) (was (by decide) h) (was_no (by decide) h'); exact ⟨g, e, hB.kept hg (Option.some_ne_none g)⟩), fun h => ((unhide f17) (was (by decide) h)).kept hg (none_ok _)⟩
      · refine wpOp_of hr (fun oi ho => ?_)
        simp only [List.getElem?_toArray, List.getElem?_cons_succ, List.getElem?_cons_zero, Option.some.injEq] at ho
        subst ho
        have hq0 := (hB5.on G hB5.lt).one.1
        go_simp
        unfold Inv6
        exact ⟨⟨hz 7, now_yes t0, now_yes t1, now_yes t2, now_yes t3, now_yes t4, now_yes t10, now_yes t11, now_yes t12, still_no (by decide) n18, still_no (by decide) n19, still_no (by decide) n20, still_no (by decide) n21, still_no (by decide) n22, still_no (by decide) n23, fun h => now_yes (k17 (was (by decide) h)), fun h => now_yes (k16 (was (by decide) h))⟩, v28, v29, _, v31, v32, v36, v37, v38, v39, v40, rfl, G, fun h => (unhide f5) (was (by decide) h), fun h h' => (unhide f6) (was (by decide) h) (was_no (by decide) h'), fun _ => rfl, fun h h' => (unhide f8) (was (by decide) h) (was_no (by decide) h'), fun h => (unhide f9) (was (by decide) h), fun h => (unhide f13) (was (by decide) h), fun h h' => (unhide f14) (was (by decide) h) (was_no (by decide) h'), fun h => (unhide f15) (was (by decide) h), fun h h' => (unhide f16) (was (by decide) h) (was_no (by decide) h'), fun h => (unhide f17) (was (by decide) h)⟩
      · refine wpOp_of hr (fun oi ho => ?_)
        simp only [List.getElem?_toArray, List.getElem?_cons_succ, List.getElem?_cons_zero, Option.some.injEq] at ho
        subst ho
        obtain rfl := (unhide f7) (ready_dep hr 7 (by kernel_rfl))
        have hg : w'.grownBy (w'.alloc (.cells #[sl] 24)) none := World.grownBy_alloc _ _ _
        go_simp
        unfold Inv6
        exact ⟨⟨hz 8, now_yes t0, now_yes t1, now_yes t2, now_yes t3, now_yes t4, now_yes t10, now_yes t11, now_yes t12, still_no (by decide) n18, still_no (by decide) n19, still_no (by decide) n20, still_no (by decide) n21, still_no (by decide) n22, still_no (by decide) n23, fun h => now_yes (k17 (was (by decide) h)), fun h => now_yes (k16 (was (by decide) h))⟩, v28, v29, _, _, v32, v36, v37, v38, v39, v40, rfl, G.alloc G.size _, fun h => (unhide f5) (was (by decide) h), fun h h' => ((unhide f6) (was (by decide) h) (was_no (by decide) h')).alloc _, fun _ => rfl, fun _ _ => ⟨_, rfl, Box.new _ _ _⟩, fun h => ((unhide f9) (was (by decide) h)).alloc _, fun h => (unhide f13) (was (by decide) h), fun h h' => ((unhide f14) (was (by decide) h) (was_no (by decide) h')).alloc _, fun h => (unhide f15) (was (by decide) h), fun h h' => (by obtain ⟨g, e, hB⟩ := (unhide f16) (was (by decide) h) (was_no (by decide) h'); exact ⟨g, e, hB.alloc _⟩), fun h => ((unhide f17) (was (by decide) h)).alloc _⟩
      · refine wpOp_of hr (fun oi ho => ?_)
        simp only [List.getElem?_toArray, List.getElem?_cons_succ, List.getElem?_cons_zero, Option.some.injEq] at ho
        subst ho
        have R6 := (unhide f6) (ready_dep hr 6 (by kernel_rfl)) hun
        obtain ⟨g, rfl, hBg⟩ := (unhide f8) (ready_dep hr 8 (by kernel_rfl)) hun
        refine step_own w' (by rfl) (.tmp 29) (.tmp 31) 47 (by rfl) V.heap.size 24 i0 (.agg #[.slice none 0 0]) 1 24 Tryz.underlying47 hi0 hz0 hz1 hz2 (by rfl) (by decide) v29 (cs.length + 1) (newsS xs) ?q1 R6 ⟨g, 0, none⟩ 1 1 [sl] ?q2 (by rfl) (box_news hBg) (by simpa using hsl) (by unfold maxLen; omega) (by omega) G.size ?_
        case q1 => go_simp
        case q2 => go_simp
        intro v' w2 ho hg _
        unfold Inv6
        exact ⟨⟨hz 9, now_yes t0, now_yes t1, now_yes t2, now_yes t3, now_yes t4, now_yes t10, now_yes t11, now_yes t12, still_no (by decide) n18, still_no (by decide) n19, still_no (by decide) n20, still_no (by decide) n21, still_no (by decide) n22, still_no (by decide) n23, fun h => now_yes (k17 (was (by decide) h)), fun h => now_yes (k16 (was (by decide) h))⟩, v28, v29, v30, _, v', v36, v37, v38, v39, v40, rfl, G.grown hg G.size (fun k hk => (owns_lt R6 hk).1), fun h => (unhide f5) (was (by decide) h), fun _ h' => (by rw [getD_set_same hun] at h'; cases h'), fun h => (unhide f7) (was (by decide) h), fun _ h' => (by rw [getD_set_same hun] at h'; cases h'), fun _ => ho, fun h => (unhide f13) (was (by decide) h), fun h h' => ((unhide f14) (was (by decide) h) (was_no (by decide) h')).kept hg (own_ne ((unhide f14) (was (by decide) h) (was_no (by decide) h')) R6 (by decide)), fun h => (unhide f15) (was (by decide) h), fun h h' => (by obtain ⟨g, e, hB⟩ := (unhide f16) (was (by decide) h) (was_no (by decide) h'); exact ⟨g, e, hB.kept hg (box_own_ne hB R6 (by decide))⟩), fun h => ((unhide f17) (was (by decide) h)).kept hg (own_ne ((unhide f17) (was (by decide) h)) R6 (by decide))⟩
      · rw [t10] at hun; cases hun
      · rw [t11] at hun; cases hun
      · rw [t12] at hun; cases hun
      · refine wpOp_of hr (fun oi ho => ?_)
        simp only [List.getElem?_toArray, List.getElem?_cons_succ, List.getElem?_cons_zero, Option.some.injEq] at ho
        subst ho
        obtain ⟨hp0, hp1⟩ := (hBx.on G hBx.lt).two
        go_simp
        unfold Inv6
        exact ⟨⟨hz 13, now_yes t0, now_yes t1, now_yes t2, now_yes t3, now_yes t4, now_yes t10, now_yes t11, now_yes t12, still_no (by decide) n18, still_no (by decide) n19, still_no (by decide) n20, still_no (by decide) n21, still_no (by decide) n22, still_no (by decide) n23, fun h => now_yes (k17 (was (by decide) h)), fun h => now_yes (k16 (was (by decide) h))⟩, v28, v29, v30, v31, v32, _, v37, v38, v39, v40, rfl, G, fun h => (unhide f5) (was (by decide) h), fun h h' => (unhide f6) (was (by decide) h) (was_no (by decide) h'), fun h => (unhide f7) (was (by decide) h), fun h h' => (unhide f8) (was (by decide) h) (was_no (by decide) h'), fun h => (unhide f9) (was (by decide) h), fun _ => rfl, fun h h' => (unhide f14) (was (by decide) h) (was_no (by decide) h'), fun h => (unhide f15) (was (by decide) h), fun h h' => (unhide f16) (was (by decide) h) (was_no (by decide) h'), fun h => (unhide f17) (was (by decide) h)⟩
      · refine wpOp_of hr (fun oi ho => ?_)
        simp only [List.getElem?_toArray, List.getElem?_cons_succ, List.getElem?_cons_zero, Option.some.injEq] at ho
        subst ho
        obtain rfl := (unhide f13) (ready_dep hr 13 (by kernel_rfl))
        refine step_lies w' (by rfl) (.const (.slice none 0 0)) (.tmp 36) 25 (by rfl) V.heap.size 42 j0 (.agg #[.int .i64 0, .string ⟨#[]⟩, .string ⟨#[]⟩, .string ⟨#[]⟩, .int .i64 0, .int .i64 0, .string ⟨#[]⟩]) 7 88 Tryz.underlying25 hj0 hy0 hy1 hy2 (by rfl) (by decide) (.slice none 0 0) 0 [] ?q1 (World.ownsRow_nil _ _ _ _) la cs.length lc (newsC cs) ?q2 ((hRL.below bw).lies lc) (newsC_one cs) (by unfold maxLen; omega) (by omega) G.size ?_
        case q1 => go_simp
        case q2 => go_simp
        intro v' w2 ho hg
        rw [Nat.zero_add, List.nil_append] at ho
        unfold Inv6
        exact ⟨⟨hz 14, now_yes t0, now_yes t1, now_yes t2, now_yes t3, now_yes t4, now_yes t10, now_yes t11, now_yes t12, still_no (by decide) n18, still_no (by decide) n19, still_no (by decide) n20, still_no (by decide) n21, still_no (by decide) n22, still_no (by decide) n23, fun h => now_yes (k17 (was (by decide) h)), fun h => now_yes (k16 (was (by decide) h))⟩, v28, v29, v30, v31, v32, _, v', v38, v39, v40, rfl, G.grown hg G.size (fun k hk => by cases hk), fun h => (unhide f5) (was (by decide) h), fun h h' => ((unhide f6) (was (by decide) h) (was_no (by decide) h')).kept hg (none_ok _), fun h => (unhide f7) (was (by decide) h), fun h h' => (by obtain ⟨g, e, hB⟩ := (unhide f8) (was (by decide) h) (was_no (by decide) h'); exact ⟨g, e, hB.kept hg (Option.some_ne_none g)⟩), fun h => ((unhide f9) (was (by decide) h)).kept hg (none_ok _), fun _ => rfl, fun _ _ => ho, fun h => (unhide f15) (was (by decide) h), fun h h' => (by obtain ⟨g, e, hB⟩ := (unhide f16) (was (by decide) h) (was_no (by decide) h'); exact ⟨g, e, hB.kept hg (Option.some_ne_none g)⟩), fun h => ((unhide f17) (was (by decide) h)).kept hg (none_ok _)⟩
      · refine wpOp_of hr (fun oi ho => ?_)
        simp only [List.getElem?_toArray, List.getElem?_cons_succ, List.getElem?_cons_zero, Option.some.injEq] at ho
        subst ho
        obtain ⟨hc0, hc1, hc2, hc3, hc4, hc5, hc6⟩ := (hB3.on G hB3.lt).seven
        go_simp
        unfold Inv6
        exact ⟨⟨hz 15, now_yes t0, now_yes t1, now_yes t2, now_yes t3, now_yes t4, now_yes t10, now_yes t11, now_yes t12, still_no (by decide) n18, still_no (by decide) n19, still_no (by decide) n20, still_no (by decide) n21, still_no (by decide) n22, still_no (by decide) n23, fun h => now_yes (k17 (was (by decide) h)), fun _ => getD_set_same hun⟩, v28, v29, v30, v31, v32, v36, v37, _, v39, v40, rfl, G, fun h => (unhide f5) (was (by decide) h), fun h h' => (unhide f6) (was (by decide) h) (was_no (by decide) h'), fun h => (unhide f7) (was (by decide) h), fun h h' => (unhide f8) (was (by decide) h) (was_no (by decide) h'), fun h => (unhide f9) (was (by decide) h), fun h => (unhide f13) (was (by decide) h), fun h h' => (unhide f14) (was (by decide) h) (was_no (by decide) h'), fun _ => rfl, fun h h' => (unhide f16) (was (by decide) h) (was_no (by decide) h'), fun h => (unhide f17) (was (by decide) h)⟩
      · refine wpOp_of hr (fun oi ho => ?_)
        simp only [List.getElem?_toArray, List.getElem?_cons_succ, List.getElem?_cons_zero, Option.some.injEq] at ho
        subst ho
        obtain rfl := (unhide f15) (ready_dep hr 15 (by kernel_rfl))
        go_simp
        unfold Inv6
        exact ⟨⟨hz 16, now_yes t0, now_yes t1, now_yes t2, now_yes t3, now_yes t4, now_yes t10, now_yes t11, now_yes t12, still_no (by decide) n18, still_no (by decide) n19, still_no (by decide) n20, still_no (by decide) n21, still_no (by decide) n22, still_no (by decide) n23, fun _ => getD_set_same hun, fun _ => now_yes (ready_dep hr 15 (by kernel_rfl))⟩, v28, v29, v30, v31, v32, v36, v37, _, _, v40, rfl, G.alloc G.size _, fun h => (unhide f5) (was (by decide) h), fun h h' => ((unhide f6) (was (by decide) h) (was_no (by decide) h')).alloc _, fun h => (unhide f7) (was (by decide) h), fun h h' => (by obtain ⟨g, e, hB⟩ := (unhide f8) (was (by decide) h) (was_no (by decide) h'); exact ⟨g, e, hB.alloc _⟩), fun h => ((unhide f9) (was (by decide) h)).alloc _, fun h => (unhide f13) (was (by decide) h), fun h h' => ((unhide f14) (was (by decide) h) (was_no (by decide) h')).alloc _, fun _ => rfl, fun _ _ => ⟨_, rfl, Box.new _ _ _⟩, fun h => ((unhide f17) (was (by decide) h)).alloc _⟩
      · refine wpOp_of hr (fun oi ho => ?_)
        simp only [List.getElem?_toArray, List.getElem?_cons_succ, List.getElem?_cons_zero, Option.some.injEq] at ho
        subst ho
        have R14 := (unhide f14) (ready_dep hr 14 (by kernel_rfl)) hun
        obtain ⟨g, rfl, hBg⟩ := (unhide f16) (ready_dep hr 16 (by kernel_rfl)) hun
        refine step_own w' (by rfl) (.tmp 37) (.tmp 39) 25 (by rfl) V.heap.size 42 j0 (.agg #[.int .i64 0, .string ⟨#[]⟩, .string ⟨#[]⟩, .string ⟨#[]⟩, .int .i64 0, .int .i64 0, .string ⟨#[]⟩]) 7 88 Tryz.underlying25 hj0 hy0 hy1 hy2 (by rfl) (by decide) v37 cs.length (newsC cs) ?q1 R14 ⟨g, 0, none⟩ 1 1 c.cs.toList ?q2 (by rfl) (box_news hBg) (fun u hu => newsC_one [c] u (by simpa [newsC] using hu)) (by unfold maxLen; omega) (by omega) G.size ?_
        case q1 => go_simp
        case q2 => go_simp
        intro v' w2 ho hg _
        unfold Inv6
        exact ⟨⟨hz 17, now_yes t0, now_yes t1, now_yes t2, now_yes t3, now_yes t4, now_yes t10, now_yes t11, now_yes t12, still_no (by decide) n18, still_no (by decide) n19, still_no (by decide) n20, still_no (by decide) n21, still_no (by decide) n22, still_no (by decide) n23, fun _ => now_yes (ready_dep hr 16 (by kernel_rfl)), fun h => now_yes (k16 (was (by decide) h))⟩, v28, v29, v30, v31, v32, v36, v37, v38, _, v', rfl, G.grown hg G.size (fun k hk => (owns_lt R14 hk).1), fun h => (unhide f5) (was (by decide) h), fun h h' => ((unhide f6) (was (by decide) h) (was_no (by decide) h')).kept hg (own_ne ((unhide f6) (was (by decide) h) (was_no (by decide) h')) R14 (by decide)), fun h => (unhide f7) (was (by decide) h), fun h h' => (by obtain ⟨g, e, hB⟩ := (unhide f8) (was (by decide) h) (was_no (by decide) h'); exact ⟨g, e, hB.kept hg (box_own_ne hB R14 (by decide))⟩), fun h => ((unhide f9) (was (by decide) h)).kept hg (own_ne ((unhide f9) (was (by decide) h)) R14 (by decide)), fun h => (unhide f13) (was (by decide) h), fun _ h' => (by rw [getD_set_same hun] at h'; cases h'), fun h => (unhide f15) (was (by decide) h), fun _ h' => (by rw [getD_set_same hun] at h'; cases h'), fun _ => ho⟩
    case hfin =>
      intro f a w' hI
      unfold Inv6 at hI
      obtain ⟨-, v28, v29, v30, v31, v32, v36, v37, v38, v39, v40, rfl, G, -, -, -, -, f9, -, -, -, -, f17⟩ := hI
      have R9 := f9 (by kernel_rfl)
      have R17 := f17 (by kernel_rfl)
      clear f9 f17
      obtain ⟨sa2, sc2, rfl, -⟩ := row_of_owns R9
      obtain ⟨la2, lc2, rfl, -⟩ := row_of_owns R17
      have hBw := hBx.on G hBx.lt
      obtain ⟨hp0, hp1⟩ := hBw.two
      have hpf := hBw.frz
      replace R9 := hide R9
      replace R17 := hide R17
      change wpAny _ _ _ _ (f + 6) _ _ _
      refine wpAny_alone 18 (by kernel_rfl) (fun oi ho => ?_)
      simp only [List.getElem?_toArray, List.getElem?_cons_succ, List.getElem?_cons_zero, Option.some.injEq] at ho
      subst ho
      go_simp
      refine wpAny_alone 19 (by kernel_rfl) (fun oi ho => ?_)
      simp only [List.getElem?_toArray, List.getElem?_cons_succ, List.getElem?_cons_zero, Option.some.injEq] at ho
      subst ho
      go_simp
      refine wpAny_alone 20 (by kernel_rfl) (fun oi ho => ?_)
      simp only [List.getElem?_toArray, List.getElem?_cons_succ, List.getElem?_cons_zero, Option.some.injEq] at ho
      subst ho
      go_simp
      refine wpAny_alone 21 (by kernel_rfl) (fun oi ho => ?_)
      simp only [List.getElem?_toArray, List.getElem?_cons_succ, List.getElem?_cons_zero, Option.some.injEq] at ho
      subst ho
      go_simp
      refine wpAny_alone 22 (by kernel_rfl) (fun oi ho => ?_)
      simp only [List.getElem?_toArray, List.getElem?_cons_succ, List.getElem?_cons_zero, Option.some.injEq] at ho
      subst ho
      go_simp
      refine wpAny_alone 23 (by kernel_rfl) (fun oi ho => ?_)
      simp only [List.getElem?_toArray, List.getElem?_cons_succ, List.getElem?_cons_zero, Option.some.injEq] at ho
      subst ho
      go_simp
      refine wpAny_done (by kernel_rfl) ?_ _
      obtain ⟨wz, ewz⟩ : ∃ wz, wz = (w'.setCell ⟨Bp, 0, none⟩ (.slice sa2 (cs.length + 1 + 1) sc2)).setCell ⟨Bp, 1, none⟩ (.slice la2 (cs.length + 1) lc2) := ⟨_, rfl⟩
      have ez : wz.heap.size = w'.heap.size := by rw [ewz]; simp
      have hBz : Box wz Bp 49 #[.slice sa2 (cs.length + 1 + 1) sc2, .slice la2 (cs.length + 1) lc2] := by rw [ewz]; exact (hBw.set 0 _).set 1 _
      have R9z : wz.ownsRow V.heap.size 24 1 (.slice sa2 (cs.length + 1 + 1) sc2) (cs.length + 1 + 1) (newsS xs ++ [sl]) := by rw [ewz]; exact set_other (set_other (unhide R9) hBw (by decide) _) (hBw.set 0 _) (by decide) _
      have R17z : wz.ownsRow V.heap.size 42 7 (.slice la2 (cs.length + 1) lc2) (cs.length + 1) (newsC cs ++ c.cs.toList) := by rw [ewz]; exact set_other (set_other (unhide R17) hBw (by decide) _) (hBw.set 0 _) (by decide) _
      have bw : Below w.heap.size w w' := bwV.trans (G.mono bwV.size)
      have hTz : ∀ n₀ ta us, Typs n₀ w' ta us → Typs n₀ wz ta us := fun n₀ ta us h => by rw [ewz]; exact typs_storeN (two_no (hBw.set 0 (.slice sa2 (cs.length + 1 + 1) sc2))) (typs_storeN (two_no hBw) h)
      have kz : KeepC (fun k => k = Bp) w wz := by rw [ewz]; exact ((KeepC.below bw).trans (KeepC.set (X := fun k => k = Bp) _ Bp 0 _ rfl)).trans (KeepC.set (X := fun k => k = Bp) _ Bp 1 _ rfl)
      have bz : ∀ n, n ≤ Bp → Below n w wz := fun n hn => by rw [ewz]; exact ((bw.mono (by have := hC.lt; omega)).setCell (p := ⟨Bp, 0, none⟩) hn _).setCell (p := ⟨Bp, 1, none⟩) hn _
      have hfin : RLeft (addR ts cs c) Bp sc lc sa la xs ts cs c wz := by
        unfold RLeft
        rw [if_pos (unhide hr)]
        refine ⟨sa2, la2, sc2, lc2, xs ++ [(us, a5, c5)], ?_, ?_, ?_, ?_, ?_, ?_, fun b off e => (owns_lt R9z (g := b) (by rw [e]; rfl)).2⟩
        · rw [List.length_append, List.length_singleton]; exact hBz
        · exact hBz.lt
        · rw [List.map_append, hC.is, versL_snoc, ← unhide hus]; rfl
        · obtain ⟨a8, c8, e8, hR⟩ := row_of_owns R9z
          simp only [Value.slice.injEq, true_and] at e8
          rw [List.length_append, List.length_singleton, e8.1]
          have e9 : newsS (xs ++ [(us, a5, c5)]) = newsS xs ++ [sl] := by rw [unhide esl]; simp [newsS]
          rw [e9]; exact hR
        · intro x hx
          rcases List.mem_append.1 hx with hx | hx
          · have := hTz _ _ _ ((hC.own x hx).below bw)
            exact this.mono (by rw [ez]; exact bw.size)
          · rw [List.mem_singleton] at hx
            subst hx
            have h1 := hT5.on bV
            have h2 := hTz _ _ _ (h1.on G)
            rw [ez]; exact h2
        · obtain ⟨a8, c8, e8, hR⟩ := row_of_owns R17z
          simp only [Value.slice.injEq, true_and] at e8
          rw [List.length_append, List.length_singleton, e8.1, newsC_snoc]
          exact hR
      replace hfin := hide hfin
      rw [← ewz]
      clear ewz hTz
      go_wp2_with fail
      go_ret
      exact ⟨by rw [unhide hr]; rfl, unhide hfin, kz, bz⟩

end Go.Proofs.YtcjpaldijngnpaaGreatDoor

namespace Go.Proofs.YtcjpaldijngnpaaGreatDoor
open Go.RowKit Go.Shelf

/-- What NewChain leaves. -/
def RNewLeft (r : Int) (n : Nat) (ts : List Ty) (ls : List Ch) (e : Ending) (W : World) : Prop :=
  (r = 0 ∧ ∃ (Bp : Nat) (sa la : Option Addr) (sc lc : Nat) (xs : List Sw), e = .returned (.tuple #[.pointer (some ⟨Bp, 0, none⟩), .int .i64 0]) ∧ n ≤ Bp ∧ ls.length ≤ 20 ∧ RCh W.heap.size W Bp sa la sc lc xs ts ls) ∨ (r ≠ 0 ∧ e = .returned (.tuple #[.pointer none, .int .i64 r]))

set_option maxRecDepth 100000 in
set_option maxHeartbeats 8000000 in
theorem rnew_c (a al : Option Addr) (cap capl : Nat) (ts : List Ty) (ls : List Ch) (hm : ts.length ≤ maxLen) (hl : ls.length ≤ 30) (w : World) (hT : Typs w.heap.size w a ts) (hL : Chs w.heap.size w al ls) :
    Calls Tryz.prog 9 #[.agg #[.slice a ts.length cap], .slice al ls.length capl] w fun e w' => Below w.heap.size w w' ∧ Hid ((¬ Sch ts ∧ RNewLeft 10 w.heap.size ts ls e w') ∨ (Sch ts ∧ RNewLeft (addAll ts [] ls) w.heap.size ts ls e w')) := by
  obtain ⟨W0, hW0⟩ : ∃ W0, W0 = w.alloc (.cells #[.slice a ts.length cap] 24) := ⟨_, rfl⟩
  have b0 : Below w.heap.size w W0 := by rw [hW0]; exact (Below.refl _ _).alloc (Nat.le_refl _) _
  have x2 : Box W0 w.heap.size 24 #[.slice a ts.length cap] := by rw [hW0]; exact Box.new _ _ _
  have T0 := hT.on b0
  have hW0' := hide hW0
  clear hW0
  have hs := x2.one.1
  have cI := hide (refSch_c a cap ts hm W0 T0)
  go_enter Tryz.func9, Tryz.ntmps9
  go_upto_region 1 with fail
  rw [← unhide hW0']
  go_wp2_with fail
  refine (unhide cI).mono ?_
  rintro e w1 ⟨B, rfl, hb1, hB⟩
  clear cI hs
  have bw1 := b0.trans (hb1.mono b0.size)
  cases B with
  | false =>
    go_wp2_with fail
    refine bodyPost_ret (v := .tuple #[.pointer none, .int .i64 10]) (by simp [results, Tryz.results9, go_sem]) rfl ?_
    exact ⟨bw1, hide (.inl ⟨fun h => Bool.noConfusion ((unhide hB).2 h), .inr ⟨by decide, rfl⟩⟩)⟩
  | true =>
    have hS := (unhide hB).1 rfl
    clear hB
    have hs := (x2.on hb1 x2.lt).one.1
    have cC := hide (copied_c a cap ts hS.1 (sch_hk5 hS) w1 (T0.on hb1))
    go_wp2_with fail
    refine (unhide cC).mono ?_
    rintro e w2 ⟨v2, ys, rfl, ⟨hys, hown⟩, hrow, hb2, -⟩
    clear cC hs
    obtain ⟨a2, c2, rfl, hT2⟩ := typs_of_owns hrow hown (fun x hx => sch_max hS _ (by rw [← hys]; exact List.mem_map_of_mem hx))
    rw [hys] at hT2
    have hyl : ys.length = ts.length := by rw [← hys, List.length_map]
    rw [hyl]
    clear hown hrow hys hyl
    obtain ⟨w3, hw3⟩ : ∃ w3, w3 = (w2.alloc (.cells #[.slice a2 ts.length c2] 24)).alloc (.cells #[.slice (some ⟨w2.heap.size, 0, none⟩) 1 1, .slice none 0 0] 49) := ⟨_, rfl⟩
    have b23 : Below w2.heap.size w2 w3 := by rw [hw3]; exact ((Below.refl _ _).alloc (Nat.le_refl _) _).alloc (by simp) _
    have v5 : Box w3 w2.heap.size 24 #[.slice a2 ts.length c2] := by rw [hw3]; exact (Box.new w2 24 #[.slice a2 ts.length c2]).alloc _
    have v6 : Box w3 (w2.heap.size + 1) 49 #[.slice (some ⟨w2.heap.size, 0, none⟩) 1 1, .slice none 0 0] := by
      have := Box.new (w2.alloc (.cells #[.slice a2 ts.length c2] 24)) 49 #[.slice (some ⟨w2.heap.size, 0, none⟩) 1 1, .slice none 0 0]
      simp only [World.size_alloc] at this
      rw [hw3]; exact this
    go_upto_region 4 with fail
    rw [← hw3]
    clear hw3
    have bw2 := bw1.trans (hb2.mono bw1.size)
    have bw3 := bw2.trans (b23.mono bw2.size)
    have C3 : RCh w3.heap.size w3 (w2.heap.size + 1) (some ⟨w2.heap.size, 0, none⟩) none 1 0 [(ts, a2, c2)] ts [] := by
      refine ⟨v6, v6.lt, rfl, ⟨rfl, .inl ⟨w2.heap.size, 0, rfl, v5.lt, fun j u hu => ?_⟩⟩, fun x hx => ?_, ⟨rfl, .inr ⟨rfl, rfl⟩⟩, fun b off e => by cases e; exact ⟨_, v5⟩⟩
      · rw [Nat.zero_add]
        rcases j with _ | j
        · cases hu; exact v5.at 0 rfl
        · simp [newsS] at hu
      · rw [List.mem_singleton] at hx
        subst hx
        exact hT2.on b23
    replace C3 := hide (show ∃ (sa la : Option Addr) (sc lc : Nat) (xs : List Sw), RCh w3.heap.size w3 (w2.heap.size + 1) sa la sc lc xs ts (ls.take 0) from ⟨_, _, _, _, _, C3⟩)
    have bS := hide bw3
    have hwB : w.heap.size ≤ w2.heap.size + 1 := Nat.le_succ_of_le bw2.size
    go_wp2_with fail
    go_loopw [7] (fun i wr => ∃ k : Nat, k ≤ ls.length ∧ i = .int .i64 k ∧ Hid (addAll ts [] ls = addAll ts (ls.take k) (ls.drop k) ∧ (ls.take k).length ≤ 20) ∧ Hid (∃ (sa la : Option Addr) (sc lc : Nat) (xs : List Sw), RCh wr.heap.size wr (w2.heap.size + 1) sa la sc lc xs ts (ls.take k)) ∧ Below w.heap.size w wr) (fun i _ => ls.length - (intOf i).toNat)
    case atStart => exact ⟨0, Nat.zero_le _, rfl, hide ⟨rfl, Nat.zero_le _⟩, C3, unhide bS⟩
    case round =>
      obtain ⟨k, hk, rfl, hadd, hC, hbw⟩ := hrel
      obtain ⟨sa, la, sc, lc, xs, C4⟩ := unhide hC
      clear C3 hC
      by_cases hlt : k < ls.length
      · obtain ⟨b, off, eal, hb, hcs⟩ : ∃ b off, al = some ⟨b, off, none⟩ ∧ b < w.heap.size ∧ ∀ (i : Nat) u, (chn ls k).cs[i]? = some u → wr.cell? ⟨b, off + k * 7 + i, none⟩ = some u := by
          rcases hL.below hbw with h | ⟨b, off, e, hb, hc⟩
          · rw [h] at hlt; simp at hlt
          · exact ⟨b, off, e, hb, hc k hlt⟩
        have hlt' : (k : Int) < ls.length := by omega
        obtain ⟨c, hc⟩ : ∃ c, c = chn ls k := ⟨_, rfl⟩
        rw [← hc] at hcs
        have hd0 := hcs 0 _ rfl
        have hd1 := hcs 1 _ rfl
        have hd2 := hcs 2 _ rfl
        have hd3 := hcs 3 _ rfl
        have hd4 := hcs 4 _ rfl
        have hd5 := hcs 5 _ rfl
        have hd6 := hcs 6 _ rfl
        rw [Nat.add_zero] at hd0
        clear hcs
        subst eal
        have hck : c = ls[k] := by rw [hc]; simp [chn, hlt]
        have htk := hide (show ls.take (k + 1) = ls.take k ++ [c] by rw [List.take_succ_eq_append_getElem hlt, hck])
        have hdk := hide (show ls.drop k = c :: ls.drop (k + 1) by rw [List.drop_eq_getElem_cons hlt, hck])
        clear hck hc
        have cA := hide (rchAdd_c (w2.heap.size + 1) sc lc sa la xs ts (ls.take k) c hS (unhide hadd).2 wr C4)
        obtain ⟨r, hr⟩ : ∃ r, r = addR ts (ls.take k) c := ⟨_, rfl⟩
        rw [← hr] at cA
        replace hr := hide hr
        clear C4
        go_wp2_with fail
        refine (unhide cA).mono ?_
        rintro e w5 ⟨rfl, hleft, -, hbel⟩
        clear cA hd0 hd1 hd2 hd3 hd4 hd5 hd6
        have bw5 := hbw.trans (hbel w.heap.size hwB)
        clear hbel
        by_cases hr0 : r = 0
        · subst hr0
          unfold RLeft at hleft
          rw [if_pos rfl] at hleft
          have C5 := hide hleft
          rw [← unhide htk] at C5
          have hadd' := hide (show addAll ts [] ls = addAll ts (ls.take (k + 1)) (ls.drop (k + 1)) ∧ (ls.take (k + 1)).length ≤ 20 by
            rw [(unhide hadd).1, unhide hdk, addAll_ok (unhide hr).symm, ← unhide htk]
            refine ⟨rfl, ?_⟩
            rw [unhide htk, List.length_append]
            have := addR_len (unhide hr).symm
            simp only [List.length_singleton]
            omega)
          clear hleft hadd
          go_wp2_with fail
          exact ⟨⟨k + 1, by omega, by go_num, hadd', C5, bw5⟩, by simp [intOf]; omega⟩
        · have hadd' := hide (show addAll ts [] ls = r by rw [(unhide hadd).1, unhide hdk, addAll_no (by rw [← unhide hr]; exact hr0), unhide hr])
          go_wp2_with fail
          refine bodyPost_ret (v := .tuple #[.pointer none, .int .i64 r]) (by simp [results, Tryz.results9, go_sem]) rfl ?_
          exact ⟨bw5, hide (.inr ⟨hS, .inr ⟨by rw [unhide hadd']; exact hr0, by rw [unhide hadd']⟩⟩)⟩
      · obtain rfl : k = ls.length := by omega
        have hfin := hide (show addAll ts [] ls = 0 by rw [(unhide hadd).1, List.drop_length]; rfl)
        rw [List.take_length] at C4
        have h20 := (unhide hadd).2
        rw [List.take_length] at h20
        replace C4 := hide C4
        go_wp2_with fail
        refine bodyPost_ret (v := .tuple #[.pointer (some ⟨w2.heap.size + 1, 0, none⟩), .int .i64 0]) (by simp [results, Tryz.results9, go_sem]) rfl ?_
        exact ⟨hbw, hide (.inr ⟨hS, .inl ⟨unhide hfin, w2.heap.size + 1, sa, la, sc, lc, xs, rfl, hwB, h20, unhide C4⟩⟩)⟩

end Go.Proofs.YtcjpaldijngnpaaGreatDoor
