/-
  Pieces of a text: a function value that gives them, one by one, whatever the round does with blocks of its own; what plain and plainIf give.
-/
import Derived.Test.YtfofpenajkaalaaDoorPat
namespace Go.Proofs.YtfofpenajkaalaaDoor
open Go.RowKit Go.Shelf

attribute [local go_sem] Oper.semAt_some

/-- Which blocks a round may turn (X), in worlds that are good (Gd): they lie from n₀ on; what only lays blocks, and turns what is no cells, leaves all that. -/
structure ClsG (n₀ : Nat) (X : Nat → World → Prop) (Gd : World → Prop) : Prop where
  low : ∀ W k, Gd W → X k W → n₀ ≤ k ∧ k < W.heap.size
  grow : ∀ W W1 row, Gd W → W.grownBy W1 row → (∀ r, row = some r → ∃ o : Obj, W.heap[r]? = some o ∧ o.isCells = false) → Gd W1 ∧ ∀ k, X k W1 → X k W
theorem ClsG.cls {n₀ : Nat} {X : Nat → World → Prop} {Gd : World → Prop} (h : ClsG n₀ X Gd) : Cls n₀ X Gd where
  al := fun W o g => (h.grow W _ none g (World.grownBy_alloc W o none) (fun r e => by cases e)).1
  new := fun W o g hx => by
    have := (h.low W _ g ((h.grow W _ none g (World.grownBy_alloc W o none) (fun r e => by cases e)).2 _ hx)).2
    omega
  old := fun W o k g hn hx => hn ((h.grow W _ none g (World.grownBy_alloc W o none) (fun r e => by cases e)).2 _ hx)
  low := fun W k g hx => (h.low W k g hx).1
  put := fun W l o o' g hl ho => by
    have := h.grow W _ (some l) g (grownBy_putObj' W l o') (fun r e => by cases e; exact ⟨o, hl, ho⟩)
    exact ⟨this.1, fun k hn hx => hn (this.2 k hx)⟩
theorem ClsG.on {n₀ : Nat} {X : Nat → World → Prop} {Gd : World → Prop} (h : ClsG n₀ X Gd) {W W1 : World} (g : Gd W) (hb : Below W.heap.size W W1) : Gd W1 :=
  (h.grow W W1 none g ⟨hb.os, hb.tape, hb.output, hb.size, fun k hk _ => hb.block k hk⟩ (fun r e => by cases e)).1
/-- What has been kept since A is kept by what only lays blocks, and turns what is no cells. -/
theorem KeepX.own {n₀ : Nat} {X : Nat → World → Prop} {Gd : World → Prop} (hcl : ClsG n₀ X Gd) {A : World} (ga : Gd A) {β : Type} {B : Nat} : OwnP okN B (fun (_ : β) W => KeepX X Gd A W) := fun s W W1 row hk hg hr _ => by
  obtain ⟨h1, h2, h3⟩ := hk ga
  obtain ⟨g1, gx⟩ := hcl.grow W W1 row h1 hg (fun r e => (hr r e).2)
  refine ⟨g1, Nat.le_trans h2 hg.size, fun k o ho hc hx => ?_⟩
  obtain ⟨q1, q2⟩ := h3 k o ho hc hx
  refine ⟨(hg.block k (Array.getElem?_eq_some_iff.1 q1).1 (fun e => ?_)).trans q1, fun h => q2 (gx k h)⟩
  obtain ⟨o', ho', hn⟩ := (hr k e.symm).2
  rw [q1] at ho'; cases ho'
  rw [show o.isCells = false from hn] at hc; cases hc

/-- How a piece is handed over; that it is the next; that a part has come. -/
abbrev encS (x : ByteArray) : Array Value := #[.string x]
abbrev ElS (ps : List ByteArray) (pre : List ByteArray) (x : ByteArray) (_ : World) : Prop := ∃ rest, pre ++ x :: rest = ps
abbrev SpS (ps : List ByteArray) (pre : List ByteArray) : Prop := ∃ rest, pre ++ rest = ps

/-- What a function value that gives pieces does in W, at a round of the class. -/
def Gives (ps : List ByteArray) (g : Nat) (lb : Array Value) (X : Nat → World → Prop) (Gd : World → Prop) (W : World) : Prop :=
  ∀ (l : Nat) (J Jx : List ByteArray → World → Prop) (B : Nat), B ≤ W.heap.size → OwnP okN B J → OwnP okN B Jx →
    (∀ m pre x W1, J pre W1 → ElS ps pre x W1 → YieldAt Fence.wide m Tryd.prog l (encS x) W1 fun e W' => KeepsFrom B W1 W' ∧ ((e = .returned (.bool true) ∧ J (pre ++ [x]) W' ∧ KeepX X Gd W1 W') ∨ (e = .returned (.bool false) ∧ Jx (pre ++ [x]) W'))) →
    J [] W → Calls Tryd.prog g (#[.func (.yield l) #[] #[]] ++ lb) W fun e W' => (∃ v, e = .returned v) ∧ ((∃ xs, xs = ps ∧ J xs W') ∨ ∃ pre, SpS ps pre ∧ Jx pre W')

/-- Blocks of cells from m on, below n, lie as they lay. -/
def SmB (m n : Nat) (A B : World) : Prop := ∀ k o, m ≤ k → k < n → A.heap[k]? = some o → o.isCells = true → B.heap[k]? = some o
theorem SmB.trans {m n : Nat} {A B C : World} (h : SmB m n A B) (k : SmB m n B C) : SmB m n A C := fun i o h1 h2 ho hc => k i o h1 h2 (h i o h1 h2 ho hc) hc
theorem SmB.less {m n m' n' : Nat} (hm : m ≤ m') (hn : n' ≤ n) {A B : World} (h : SmB m n A B) : SmB m' n' A B := fun k o h1 h2 ho hc => h k o (Nat.le_trans hm h1) (Nat.lt_of_lt_of_le h2 hn) ho hc
theorem SmB.of {m n : Nat} {A B : World} (h : Sm n A B) : SmB m n A B := fun k o _ h2 ho hc => h k o h2 ho hc
theorem SmB.below {m n : Nat} {A B : World} (h : Below n A B) : SmB m n A B := SmB.of (Sm.of_below h)
theorem SmB.cell {m n : Nat} {A B : World} (h : SmB m n A B) {b : Nat} {i : Nat} {v : Value} (h1 : m ≤ b) (h2 : b < n) (hc : A.cell? ⟨b, i, none⟩ = some v) : B.cell? ⟨b, i, none⟩ = some v := by
  have e : B.heap[b]? = A.heap[b]? := by
    simp only [World.cell?] at hc
    cases ho : A.heap[b]? with
    | none => simp [ho] at hc
    | some o =>
      cases o with
      | cells c t r => exact h b _ h1 h2 ho rfl
      | _ => simp [ho] at hc
  simp only [World.cell?] at hc ⊢
  rw [e]; exact hc

/-- v gives these pieces: in every world in which the cells from m on, below M, lie as they lay in W. -/
def PcsB (m M : Nat) (W : World) (v : Value) (ps : List ByteArray) : Prop :=
  ∃ (g : Nat) (lb : Array Value), v = .func (.func g) #[] lb ∧ (∀ args w, (callFunc g args).run Tryd.prog w = .ok (.enter g args) w) ∧ M ≤ W.heap.size ∧
    ∀ n₀ X Gd, ClsG n₀ X Gd → M ≤ n₀ → ∀ W', SmB m M W W' → M ≤ W'.heap.size → Gd W' → Gives ps g lb X Gd W'
abbrev Pcs (m : Nat) (W : World) (v : Value) (ps : List ByteArray) : Prop := PcsB m W.heap.size W v ps
theorem Sm.less {n m : Nat} (hnm : n ≤ m) {A B : World} (h : Sm m A B) : Sm n A B := fun k o hk ho hc => h k o (Nat.lt_of_lt_of_le hk hnm) ho hc
theorem PcsB.sm {m M : Nat} {W W1 : World} {v : Value} {ps : List ByteArray} (h : PcsB m M W v ps) (hs : SmB m M W W1) (hz : M ≤ W1.heap.size) : PcsB m M W1 v ps := by
  obtain ⟨g, lb, e, en, -, H⟩ := h
  exact ⟨g, lb, e, en, hz, fun n₀ X Gd hcl hn W' hs' hz' hg => H n₀ X Gd hcl hn W' (hs.trans hs') hz' hg⟩
theorem PcsB.wide {m M m' M' : Nat} {W : World} {v : Value} {ps : List ByteArray} (h : PcsB m M W v ps) (hm : m' ≤ m) (hM : M ≤ M') (hz : M' ≤ W.heap.size) : PcsB m' M' W v ps := by
  obtain ⟨g, lb, e, en, -, H⟩ := h
  exact ⟨g, lb, e, en, hz, fun n₀ X Gd hcl hn W' hs' hz' hg => H n₀ X Gd hcl (Nat.le_trans hM hn) W' (hs'.less hm hM) (Nat.le_trans hM hz') hg⟩
theorem Pcs.on {m : Nat} {W W1 : World} {v : Value} {ps : List ByteArray} (h : Pcs m W v ps) (hb : Below W.heap.size W W1) : Pcs m W1 v ps :=
  (PcsB.sm h (SmB.below hb) hb.size).wide (Nat.le_refl _) hb.size (Nat.le_refl _)
theorem Pcs.less {m m' : Nat} (hm : m' ≤ m) {W : World} {v : Value} {ps : List ByteArray} (h : Pcs m W v ps) : Pcs m' W v ps := PcsB.wide h hm (Nat.le_refl _) (Nat.le_refl _)
/-- As a range over it wants it. -/
theorem Gives.told {ps : List ByteArray} {g : Nat} {lb : Array Value} {n₀ : Nat} {X : Nat → World → Prop} {Gd : World → Prop} {W : World} (hcl : ClsG n₀ X Gd) (hG : Gd W) (n : Nat)
    (h : ∀ W', Below W.heap.size W W' → Gd W' → Gives ps g lb X Gd W') : SeqTold okN Fence.wide n Tryd.prog g lb encS (KeepX X Gd) (ElS ps) (fun xs => xs = ps) (SpS ps) W := fun l J Jx W1 hW hJ hJx hY h0 =>
  callsIn_wide.2 (h W1 hW (hcl.on hG hW) l J Jx W1.heap.size (Nat.le_refl _) hJ hJx (fun _ pre x W2 hj he => yieldAt_any (hY pre x W2 hj he)) h0)

/-- A row of values that lies, from block m on. -/
def RowV (m n₀ : Nat) (W : World) (v : Value) (vs : List Value) : Prop :=
  ∃ a c, v = .slice a vs.length c ∧ vs.length ≤ 1099511627776 ∧ ∀ j u, vs[j]? = some u → ∃ b o, a = some ⟨b, o, none⟩ ∧ m ≤ b ∧ b < n₀ ∧ W.cell? ⟨b, o + j, none⟩ = some u
theorem RowV.sm {m n₀ : Nat} {A B : World} (hs : SmB m n₀ A B) {v : Value} {vs : List Value} (h : RowV m n₀ A v vs) : RowV m n₀ B v vs := by
  obtain ⟨a, c, e, hl, hc⟩ := h
  exact ⟨a, c, e, hl, fun j u hu => by obtain ⟨b, o, e', hm, hb, hx⟩ := hc j u hu; exact ⟨b, o, e', hm, hb, hs.cell hm hb hx⟩⟩
theorem RowV.mono {m n₀ n₁ : Nat} (hn : n₀ ≤ n₁) {A : World} {v : Value} {vs : List Value} (h : RowV m n₀ A v vs) : RowV m n₁ A v vs := by
  obtain ⟨a, c, e, hl, hc⟩ := h
  exact ⟨a, c, e, hl, fun j u hu => by obtain ⟨b, o, e', hm, hb, hx⟩ := hc j u hu; exact ⟨b, o, e', hm, Nat.lt_of_lt_of_le hb hn, hx⟩⟩
theorem RowV.on {m : Nat} {A B : World} (hb : Below A.heap.size A B) {v : Value} {vs : List Value} (h : RowV m A.heap.size A v vs) : RowV m B.heap.size B v vs := (h.sm (SmB.below hb)).mono hb.size
theorem RowV.nil (m n₀ : Nat) (W : World) (a : Option Addr) (c : Nat) : RowV m n₀ W (.slice a 0 c) [] := ⟨a, c, rfl, by decide, fun j u h => by simp at h⟩
theorem Box.smk {m n₀ : Nat} {A W : World} (hs : SmB m n₀ A W) {B : Nat} {t : TypeId} {cs : Array Value} (h : Box A B t cs) (hm : m ≤ B) (hB : B < n₀) : Box W B t cs := hs B _ hm hB h rfl

set_option maxRecDepth 100000 in
set_option maxHeartbeats 2000000 in
theorem plain1_gives (B : Nat) (v : Value) (ps : List ByteArray) (n₀ : Nat) (X : Nat → World → Prop) (Gd : World → Prop) (hcl : ClsG n₀ X Gd) (W : World) (hG : Gd W) (hB : Box W B 40 #[v]) (m : Nat) (hv : RowV m n₀ W v (ps.map .string)) :
    Gives ps 58 #[.pointer (some ⟨B, 0, none⟩)] X Gd W := by
  intro l J Jx B0 hB0 hJ hJx hY h0
  have hl := hide (show (ps.map Value.string).length = ps.length from List.length_map _)
  obtain ⟨a, c, rfl, hle, hcs⟩ := hv
  rw [unhide hl] at hle hB
  replace hcs := hide hcs
  refine callsIn_wide.1 (show CallsIn Fence.wide 5 _ _ _ _ _ from ?_)
  refine callsIn_of_wp Tryd.func58 rfl trivial ?_ rfl
  simp only [Tryd.ntmps58, List.size_toArray, List.length_cons, List.length_nil, Nat.reduceAdd, Nat.reduceSub, Array.replicate_succ, Array.replicate_zero, List.push_toArray, List.append_toArray, List.nil_append, List.cons_append]
  have hb0 := hB.one.1
  gi_wp2_with fail
  gi_loopw [7] (fun i wr => ∃ k : Nat, k ≤ ps.length ∧ i = .int .i64 k ∧ J (ps.take k) wr ∧ KeepX X Gd W wr) (fun i _ => ps.length - (intOf i).toNat)
  case atStart => exact ⟨0, Nat.zero_le _, rfl, h0, KeepX.refl _ _ _⟩
  case round =>
    obtain ⟨k, hk, rfl, hJs, hkr⟩ := hrel
    by_cases hlt : k < ps.length
    · obtain ⟨x, hx⟩ : ∃ x, ps[k]? = some x := ⟨_, List.getElem?_eq_getElem hlt⟩
      obtain ⟨b, o, rfl, -, hb, hc⟩ := unhide hcs k (.string x) (by rw [List.getElem?_map, hx]; rfl)
      have gr := (hkr hG).1
      have sr := hkr.sm hcl.cls hG
      have hc' := sr.cell hb hc
      have htk := hide (show ps.take (k + 1) = ps.take k ++ [x] by rw [List.take_add_one, hx]; rfl)
      have hel : ElS ps (ps.take k) x wr := ⟨ps.drop (k + 1), by
        rw [← List.singleton_append, ← List.append_assoc, ← unhide htk, List.take_append_drop]⟩
      obtain ⟨fn, tmps, assign, body, hy, hR⟩ := hY 4 _ x wr hJs hel
      dsimp only [encS] at hy
      replace hel := hide hel
      have hkl : (k : Int) < ps.length := by omega
      clear hc hx
      gi_wp2_with fail
      refine hR.mono ?_
      rintro e W3 ⟨-, ⟨rfl, hJ3, hk3⟩ | ⟨rfl, hJx3⟩⟩
      · gi_wp2_with fail
        go_roundw
        case rel => exact ⟨k + 1, by omega, by go_num, by rw [unhide htk]; exact hJ3, hkr.trans hk3⟩
        case measure => simp [intOf]; omega
      · gi_wp2_with fail
        refine bodyPost_ret (results_none rfl _ _ _) rfl ?_
        obtain ⟨rest, hr⟩ := unhide hel
        exact ⟨⟨_, rfl⟩, .inr ⟨_, ⟨rest, by rw [List.append_assoc]; exact hr⟩, hJx3⟩⟩
    · have hke : ps.take k = ps := List.take_of_length_le (by omega)
      replace hke := hide hke
      gi_wp2_with fail
      go_end0
      exact ⟨⟨_, rfl⟩, .inl ⟨_, unhide hke, hJs⟩⟩

theorem pcs_plain (m B : Nat) (hm : m ≤ B) (v : Value) (ps : List ByteArray) (W : World) (hB : Box W B 40 #[v]) (hv : RowV m W.heap.size W v (ps.map .string)) : Pcs m W (.func (.func 58) #[] #[.pointer (some ⟨B, 0, none⟩)]) ps :=
  ⟨58, _, rfl, enters_of Tryd.func58 (by kernel_rfl) rfl, Nat.le_refl _, fun n₀ X Gd hcl hn W' hs _ hG => plain1_gives B v ps n₀ X Gd hcl W' hG (hB.smk hs hm hB.lt) m ((hv.sm hs).mono hn)⟩

set_option maxHeartbeats 1000000 in
theorem plain_c (m : Nat) (v : Value) (ps : List ByteArray) (w : World) (hm : m ≤ w.heap.size) (hv : RowV m w.heap.size w v (ps.map .string)) :
    Calls Tryd.prog 38 #[v] w fun e w' => ∃ u, e = .returned u ∧ Pcs m w' u ps ∧ Below w.heap.size w w' := by
  obtain ⟨W0, hW0⟩ : ∃ W0, W0 = w.alloc (.cells #[v] 40) := ⟨_, rfl⟩
  have b0 : Below w.heap.size w W0 := by rw [hW0]; exact (Below.refl _ _).alloc (Nat.le_refl _) _
  have x0 : Box W0 w.heap.size 40 #[v] := by rw [hW0]; exact Box.new _ _ _
  have hp := hide (pcs_plain m _ hm v ps W0 x0 (hv.on b0))
  obtain ⟨a, c, rfl, -, -⟩ := hv
  simp only [List.length_map] at hW0 ⊢
  go_enter Tryd.func38, Tryd.ntmps38
  go_upto_region 1 with fail
  rw [← hW0]
  clear hW0
  go_wp2_with fail
  go_ret
  exact ⟨_, rfl, unhide hp, b0⟩

set_option maxHeartbeats 1000000 in
theorem plainIf_c (m : Nat) (b : Bool) (v : Value) (ps : List ByteArray) (w : World) (hm : m ≤ w.heap.size) (hv : RowV m w.heap.size w v (ps.map .string)) :
    Calls Tryd.prog 53 #[.bool b, v] w fun e w' => ∃ u, e = .returned u ∧ Pcs m w' u (if b then ps else []) ∧ Below w.heap.size w w' := by
  have h1 := hide (plain_c m v ps w hm hv)
  have h2 := hide (plain_c m (.slice none 0 0) [] w hm (RowV.nil _ _ _ _ _))
  cases b
  · go_enter Tryd.func53, Tryd.ntmps53
    go_wp2_with fail
    refine (unhide h2).mono ?_
    rintro e w1 ⟨u, rfl, hp, hb⟩
    go_wp2_with fail
    go_ret
    exact ⟨_, rfl, hp, hb⟩
  · go_enter Tryd.func53, Tryd.ntmps53
    go_wp2_with fail
    refine (unhide h1).mono ?_
    rintro e w1 ⟨u, rfl, hp, hb⟩
    go_wp2_with fail
    go_ret
    exact ⟨_, rfl, hp, hb⟩

end Go.Proofs.YtfofpenajkaalaaDoor
