/-
  A row that a call makes beside boxes that lie below it: one element more, and what stays. The walk over fields as a range meets it.
-/
import Derived.Test.YtcjpaldijngnpaaGreatDoorFlds
import Derived.Test.YtcjpaldijngnpaaGreatDoorCopy
import Derived.Maps.OwnIn
namespace Go.Proofs.YtcjpaldijngnpaaGreatDoor
open Go.RowKit Go.Shelf

attribute [local go_sem] Oper.semAt_some

theorem Keep.mono {K K' : Nat → Prop} (hK : ∀ k, K' k → K k) {A B : World} (h : Keep K A B) : Keep K' A B := ⟨h.size, fun k hk hl => h.same k (hK k hk) hl⟩
theorem Keep.alloc {K : Nat → Prop} {A B : World} (h : Keep K A B) (o : Obj) : Keep K A (B.alloc o) := h.on ((Below.refl _ _).alloc (Nat.le_refl _) _)
theorem Keep.put {K : Nat → Prop} (W : World) {l : Nat} (hl : ∀ k, K k → k ≠ l) (o' : Obj) : Keep K W (W.putObj l o') := ⟨by simp, fun k hk _ => World.putObj_heap_other (hl k hk)⟩
theorem ownFrom_keep {β : Type} {K : Nat → Prop} {B : Nat} (hK : ∀ k, K k → k < B) {W0 : World} : OwnFrom B (fun (_ : β) W => Keep K W0 W) := fun _ _ _ _ hs hg hr =>
  ⟨Nat.le_trans hs.size hg.size, fun k hk hl => (hg.block k (Nat.lt_of_lt_of_le hl hs.size) (fun e => by have := (hr k e.symm).1; have := hK k hk; omega)).trans (hs.same k hk hl)⟩
theorem own_row {β : Type} (base : Nat) (e : TypeId) (size : Nat) (v : Value) (k : β → Nat) (f : β → List Value) : Own (fun s W => W.ownsRow base e size v (k s) (f s)) := by
  rintro s X Y row hr hg hrow
  refine hr.kept hg ?_
  rcases hr.2 with ⟨rfl, _⟩ | ⟨g, cap, cur, rfl, _, hgb, _⟩
  · exact .inl rfl
  · refine .inr fun e' => ?_
    obtain ⟨o, ho, hc⟩ := hrow g e'.symm
    rw [hgb] at ho; cases ho; cases hc

/-- One element more, in a row above the box that bears it. -/
theorem appended {W w1 : World} {base B : Nat} {t e : TypeId} {size : Nat} {cs : Array Value} {v v' : Value} {k m : Nat} {xs ys : List Value} {tmp : Obj} (i : Nat)
    (hb : Box W B t cs) (hlt : B < base) (hrow : W.ownsRow base e size v k xs) (hbase : base ≤ W.heap.size) (hown' : w1.ownsRow base e size v' m ys) (hgrow : (W.alloc tmp).grownBy w1 v.ownBlock) :
    Box w1 B t cs ∧ Box (w1.setCell ⟨B, i, none⟩ v') B t (cs.setIfInBounds i v') ∧ (w1.setCell ⟨B, i, none⟩ v').ownsRow base e size v' m ys ∧ KeepsOthers W (w1.setCell ⟨B, i, none⟩ v') ∧ Keep (fun k => k < base ∧ k ≠ B) W (w1.setCell ⟨B, i, none⟩ v') ∧ ∀ n, n ≤ B → Below n W (w1.setCell ⟨B, i, none⟩ v') := by
  have hne : ∀ g, v.ownBlock = some g → base ≤ g := fun g hg => (owns_lt hrow hg).1
  have hb1 : Box w1 B t cs := (hgrow.block B (by have := hb.lt; simp; omega) (fun e' => by have := hne B e'.symm; omega)).trans (hb.alloc tmp)
  have hkp : Keep (fun k => k < base ∧ k ≠ B) W (w1.setCell ⟨B, i, none⟩ v') := by
    refine ⟨by have := hgrow.size; simp at this ⊢; omega, fun k hk hl => ?_⟩
    rw [setCell_block _ _ _ (by simp only; omega)]
    exact (hgrow.block k (by simp; omega) (fun e' => by have := hne k e'.symm; omega)).trans (Below.heap_alloc _ _ _ hl)
  refine ⟨hb1, hb1.set i v', owns_keep hown' (fun g hg _ => setCell_block _ _ _ (by have := (owns_lt hown' hg).1; simp only; omega)), ?_, hkp, ?_⟩
  · refine ((KeepsOthers.alloc W tmp).trans (KeepsOthers.of_grownBy hgrow fun j o ej hj => ?_)).trans (KeepsOthers.setCell _ _ _)
    rcases (hrow.alloc tmp).2 with ⟨rfl, _⟩ | ⟨g, cap, cur, rfl, _, hgb, _⟩
    · simp [Value.ownBlock] at ej
    · obtain rfl : g = j := by simpa [Value.ownBlock] using ej
      rw [hgb] at hj; cases hj; rfl
  · intro n hn
    refine (((Below.refl n W).alloc (by omega) tmp).grown hgrow (by simp; omega) fun j ej => ?_).setCell (p := ⟨B, i, none⟩) hn v'
    have := hne j ej
    omega

theorem cell_two_new (w : World) (x y : Value) (t : TypeId) : ∀ j u, [x, y][j]? = some u → (w.alloc (.cells #[x, y] t)).cell? ((⟨w.heap.size, 0, none⟩ : Addr).add j) = some u := by
  intro j u hj
  match j, hj with
  | 0, hj => simp at hj; subst hj; simp [Addr.add]
  | 1, hj => simp at hj; subst hj; simp [Addr.add]
  | j + 2, hj => simp at hj
theorem cell_three_new (w : World) (x y z : Value) (t : TypeId) : ∀ j u, [x, y, z][j]? = some u → (w.alloc (.cells #[x, y, z] t)).cell? ((⟨w.heap.size, 0, none⟩ : Addr).add j) = some u := by
  intro j u hj
  match j, hj with
  | 0, hj => simp at hj; subst hj; simp [Addr.add]
  | 1, hj => simp at hj; subst hj; simp [Addr.add]
  | 2, hj => simp at hj; subst hj; simp [Addr.add]
  | j + 3, hj => simp at hj

theorem newsF_append (fs gs : List Fd) : newsF (fs ++ gs) = newsF fs ++ newsF gs := by simp [newsF]

set_option maxHeartbeats 1000000 in
theorem fieldsW_in (n : Nat) (nm : ByteArray) (a : Option Addr) (nf cap : Nat) (c : Ch) (w : World) :
    CallsIn Fence.wide n Tryz.prog 99 #[.agg #[.string nm, .slice a nf cap], c.v] w fun e w' => e = .returned (.func (.func 110) #[] #[.pointer (some ⟨w.heap.size, 0, none⟩), .pointer (some ⟨w.heap.size + 1, 0, none⟩)]) ∧ w' = (w.alloc (.cells #[.string nm, .slice a nf cap] 69)).alloc (.cells c.cs 42) := by
  refine callsIn_of_wp Tryz.func99 rfl trivial ?_ rfl
  simp only [Tryz.ntmps99, List.size_toArray, List.length_cons, List.length_nil, Nat.reduceAdd, Nat.reduceSub, Array.replicate_succ, Array.replicate_zero, List.push_toArray, List.append_toArray, List.nil_append, List.cons_append]
  gi_wp2
  go_ret
  exact ⟨rfl, rfl⟩

theorem fields_all (n : Nat) (hn : 1 ≤ n) (Bt Bc n₀ cap : Nat) (a : Option Addr) (nm : Txt) (fs : List Fd) (c : Ch) (h5 : fs.length ≤ 5) (w : World) (hn₀ : n₀ ≤ w.heap.size) (hBt : Box w Bt 69 #[.string nm.1, .slice a fs.length cap]) (hBc : Box w Bc 42 c.cs) (hF : Flds n₀ w a fs) :
    SeqAll Fence.wide n Tryz.prog 110 #[.pointer (some ⟨Bt, 0, none⟩), .pointer (some ⟨Bc, 0, none⟩)] pfV (Keep (fun k => k < n₀ ∨ k = Bt ∨ k = Bc)) (fun xs _ => xs = fAll (nm.1.toList == c.t.1.toList) c fs) (fs.length + 1) w := fun l J W hW hJ hY h0 => by
  refine (fields1_all n hn l Bt Bc n₀ cap a nm fs c h5 J (fun hj hb => abides_below hJ hj hb) (fun _ => True) (fun _ _ _ => trivial) trivial (fun pre x W _ => hY pre x W) W (Nat.le_trans hn₀ hW.size) (hBt.on hW hBt.lt) (hBc.on hW hBc.lt) (hF.below (hW.mono hn₀)) h0).mono ?_
  rintro e W' ⟨he, hj⟩
  exact ⟨he, _, rfl, hj⟩

/-- A field's place is one of the elder type, or it is the new one's. -/
abbrev Pk (m : Nat) := { x : Pf // x.1 = -1 ∨ ∃ k : Nat, k < m ∧ x.1 = k }
theorem fields_all_at (n : Nat) (hn : 1 ≤ n) (Bt Bc n₀ cap : Nat) (a : Option Addr) (nm : Txt) (fs : List Fd) (c : Ch) (h5 : fs.length ≤ 5) (w : World) (hn₀ : n₀ ≤ w.heap.size) (hBt : Box w Bt 69 #[.string nm.1, .slice a fs.length cap]) (hBc : Box w Bc 42 c.cs) (hF : Flds n₀ w a fs) :
    SeqAll Fence.wide n Tryz.prog 110 #[.pointer (some ⟨Bt, 0, none⟩), .pointer (some ⟨Bc, 0, none⟩)] (fun x : Pk fs.length => pfV x.1) (Keep (fun k => k < n₀ ∨ k = Bt ∨ k = Bc)) (fun xs _ => xs.map Subtype.val = fAll (nm.1.toList == c.t.1.toList) c fs) (fs.length + 1) w := fun l J W hW hJ hY h0 => by
  refine (fields1_all n hn l Bt Bc n₀ cap a nm fs c h5 (fun l W => ∃ l' : List (Pk fs.length), l'.map Subtype.val = l ∧ J l' W) (fun ⟨l', e, hj⟩ hb => ⟨l', e, abides_below hJ hj hb⟩) (fun x => x.1 = -1 ∨ ∃ k : Nat, k < fs.length ∧ x.1 = k) (fun k _ hk => .inr ⟨k, hk, rfl⟩) (.inl rfl) (fun pre x W hx ⟨l', e, hj⟩ hl => ?_) W (Nat.le_trans hn₀ hW.size) (hBt.on hW hBt.lt) (hBc.on hW hBc.lt) (hF.below (hW.mono hn₀)) ⟨[], rfl, h0⟩).mono ?_
  · refine (hY l' ⟨x, hx⟩ W hj (by rw [← e, List.length_map] at hl; exact hl)).mono ?_
    rintro e' W' ⟨he, hj', hk⟩
    exact ⟨he, ⟨_, by rw [List.map_append, e]; rfl, hj'⟩, hk⟩
  · rintro e W' ⟨he, l', e', hj⟩
    exact ⟨he, l', e', hj⟩

end Go.Proofs.YtcjpaldijngnpaaGreatDoor
