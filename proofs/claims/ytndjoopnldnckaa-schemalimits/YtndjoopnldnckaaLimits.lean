/-
  Proved: for every three bytes the call of SchemaLimits returns true, and they read behind it as they read before; no condition.
-/
import Derived.Test.YtndjoopnldnckaaMake
import Derived.Deep.CutRange
import Derived.Deep.DeepCutAuto
import Derived.BigRegion
import Derived.Laws.BytesArg
namespace Go.Proofs.Ytndjoopnldnckaa.schemaLimits
open Go.RowKit Go.Shelf

theorem info29 : (Try.prog.info? 29).map (fun i => (i.zero, i.size, i.bytes)) = some (some (.agg #[.string ⟨#[]⟩, .slice none 0 0]), 2, 40) := by kernel_rfl

theorem conv1 (W : World) (c : Int) : (convert 26 9 (.slice (some ⟨W.heap.size, 0, none⟩) 1 1)).run Try.prog (W.alloc (.cells #[.int .u8 c] 5)) = .ok (.string (strOfNums [c])) (W.alloc (.cells #[.int .u8 c] 5)) :=
  run_convert_bytes_arg _ 26 5 Try.underlying26 Try.underlying5 W.heap.size 0 1 1 [c] rfl (fun i hi => by
    have : i = 0 := by omega
    subst this
    simp) 9 Try.underlying9

theorem info31' : (Try.prog.info? 31).map (fun i => (i.zero, i.size, i.bytes)) = some (some (.agg #[.string ⟨#[]⟩, .int .i64 0]), 2, 24) := info31
theorem cells_two (W : World) (a b : Value) (t : TypeId) : ∀ j u, [a, b][j]? = some u → (W.alloc (.cells #[a, b] t)).cell? ((⟨W.heap.size, 0, none⟩ : Addr).add j) = some u := by
  intro j u h
  rw [WideShapes.add_plain]
  match j, h with
  | 0, h => simp at h; subst h; simp
  | 1, h => simp at h; subst h; simp
theorem cells_two' (W : World) (o : Obj) (a b : Value) (t : TypeId) : ∀ j u, [a, b][j]? = some u → ((W.alloc o).alloc (.cells #[a, b] t)).cell? ((⟨W.heap.size + 1, 0, none⟩ : Addr).add j) = some u := by
  have := cells_two (W.alloc o) a b t
  rwa [World.size_alloc] at this

theorem str_t (i : Nat) : (⟨#[116]⟩ : ByteArray) ++ strOfNums [97 + (i : Int)] = (mkT i).1 := by
  apply ByteArray.ext
  have : (97 + (i : Int)).toNat = 97 + i := by omega
  simp [mkT, t2, strOfNums, ByteArray.data_append, this]
theorem str_f (i : Nat) : (⟨#[102]⟩ : ByteArray) ++ strOfNums [97 + (i : Int)] = (mkF i).1 := by
  apply ByteArray.ext
  have : (97 + (i : Int)).toNat = 97 + i := by omega
  simp [mkF, t2, strOfNums, ByteArray.data_append, this]

/-- What lies behind f rounds of the inner loop. -/
def Inv2 (W0 : World) (i : Nat) (W : World) (f : Nat) : Prop :=
  ∃ v', TBox W (W0.heap.size + 1) (mkT i).1 v' ∧ W.ownsRow (W0.heap.size + 2) 31 2 v' f (newsF (fieldsTo f)) ∧ Below W0.heap.size W0 W

theorem tb_after {wr w2 : World} {B : Nat} {s : ByteArray} {v' : Value} {o1 o2 : Obj} (htb : TBox wr B s v') (hgrow : ((wr.alloc o1).alloc o2).grownBy w2 v'.ownBlock) (hne : ∀ g, v'.ownBlock = some g → g ≠ B) : TBox w2 B s v' := by
  have hl := htb.lt
  have h1 := hgrow.block B (by simp; omega) (fun e => hne B e.symm rfl)
  exact h1.trans ((Below.heap_alloc _ _ _ (by simp; omega)).trans ((Below.heap_alloc _ _ _ hl).trans htb))

theorem inv2_step {W0 wr w2 : World} {i f : Nat} {v' v2 : Value} {o1 o2 : Obj} (htb : TBox wr (W0.heap.size + 1) (mkT i).1 v') (hrow : wr.ownsRow (W0.heap.size + 2) 31 2 v' f (newsF (fieldsTo f))) (hB2 : Below W0.heap.size W0 wr)
    (hgrow : ((wr.alloc o1).alloc o2).grownBy w2 v'.ownBlock) (hown : w2.ownsRow (W0.heap.size + 2) 31 2 v2 (f + 1) (newsF (fieldsTo f) ++ [.string ((⟨#[102]⟩ : ByteArray) ++ strOfNums [97 + (f : Int)]), .int .i64 (1 + (f : Int) % 3)])) :
    Inv2 W0 i (w2.setCell ⟨W0.heap.size + 1, 1, none⟩ v2) (f + 1) := by
  have htb2 := tb_after htb hgrow (fun g e => by have := (owns_lt hrow e).1; omega)
  refine ⟨v2, htb2.set1 v2, ?_, ?_⟩
  · rw [newsF_succ, ← str_f]
    have e : ((1 + f % 3 : Nat) : Int) = 1 + (f : Int) % 3 := by omega
    rw [e]
    exact owns_keep hown fun g hg _ => Below.heap_setCell _ _ _ _ (by have := (owns_lt hown hg).1; simp only; omega)
  · have h1 := (hB2.alloc hB2.size o1).alloc (by have := hB2.size; simp; omega) o2
    have h2 := h1.grown hgrow (by have := hB2.size; simp; omega) (fun g e => by have := (owns_lt hrow e).1; omega)
    exact h2.setCell (p := ⟨W0.heap.size + 1, 1, none⟩) (by simp) _

/-- What lies behind i rounds. -/
def Inv (n₀ j : Nat) (w1 W : World) (i : Nat) : Prop :=
  ∃ v V, Boxed W n₀ 25 v ∧ W.ownsRow n₀ 29 2 v i (newsT V i) ∧ (∀ q, q < i → W.ownsRow n₀ 31 2 (V q) j (newsF (fieldsTo j))) ∧ (∀ p q, p < q → q < i → ∀ g g', (V p).ownBlock = some g → (V q).ownBlock = some g' → g < g') ∧ Below n₀ w1 W

theorem bx_after {wr w2 : World} {B : Nat} {v : Value} {o1 : Obj} {base i : Nat} {xs : List Value} (hbx : Boxed wr B 25 v) (hgrow : (wr.alloc o1).grownBy w2 v.ownBlock) (hrow : wr.ownsRow base 29 2 v i xs) : Boxed w2 B 25 v := by
  refine (hbx.alloc o1).kept hgrow fun e => ?_
  obtain ⟨_, cur, hc⟩ := owns_lt hrow e.symm
  rw [show wr.heap[B]? = _ from hbx] at hc
  cases hc

theorem inv_step {w1 W0 wr w2 : World} {i j : Nat} {v v2 : Value} {V : Nat → Value} {a' : Option Addr} {c' : Nat} {o1 : Obj} (hB : Below w1.heap.size w1 W0) (hV : ∀ q, q < i → W0.ownsRow w1.heap.size 31 2 (V q) j (newsF (fieldsTo j))) (hap : ∀ p q, p < q → q < i → ∀ g g', (V p).ownBlock = some g → (V q).ownBlock = some g' → g < g') (hB2 : Below W0.heap.size W0 wr)
    (hrow2 : wr.ownsRow (W0.heap.size + 2) 31 2 (.slice a' j c') j (newsF (fieldsTo j))) (hrow : wr.ownsRow w1.heap.size 29 2 v i (newsT V i)) (hgrow : (wr.alloc o1).grownBy w2 v.ownBlock) (hbx3 : Boxed w2 w1.heap.size 25 v)
    (hown : w2.ownsRow w1.heap.size 29 2 v2 (i + 1) (newsT V i ++ [.string (mkT i).1, .slice a' j c'])) :
    Inv w1.heap.size j w1 (w2.setCell ⟨w1.heap.size, 0, none⟩ v2) (i + 1) := by
  have hkeep : ∀ (g : Nat) (cur : Array Value), wr.heap[g]? = some (Obj.cells cur 31 (0, 0)) → w2.heap[g]? = some (Obj.cells cur 31 (0, 0)) := by
    intro g cur hg
    have hl := (Array.getElem?_eq_some_iff.1 hg).1
    refine (hgrow.block g (by simp; omega) (fun e => ?_)).trans ((Below.heap_alloc _ _ _ hl).trans hg)
    obtain ⟨_, cur', hc⟩ := owns_lt hrow e.symm
    rw [hg] at hc
    cases hc
  have carry : ∀ u xs, wr.ownsRow w1.heap.size 31 2 u j xs → (w2.setCell ⟨w1.heap.size, 0, none⟩ v2).ownsRow w1.heap.size 31 2 u j xs := by
    intro u xs h
    refine owns_keep h fun g hg _ => ?_
    obtain ⟨_, cur, hc⟩ := owns_lt h hg
    have h2 := hkeep g cur hc
    rw [hc, ← h2]
    refine Below.heap_setCell _ _ _ _ (fun e => ?_)
    simp only at e
    subst e
    rw [show w2.heap[w1.heap.size]? = _ from hbx3] at h2
    cases h2
  refine ⟨v2, fun q => if q = i then .slice a' j c' else V q, hbx3.set v2, ?_, fun q hq => ?_, ?_, ?_⟩
  · rw [newsT_succ, newsT_congr (V' := V) (fun q hq => if_neg (by omega)), if_pos rfl]
    refine owns_keep hown fun g hg _ => Below.heap_setCell _ _ _ _ (fun e => ?_)
    obtain ⟨_, cur, hc⟩ := owns_lt hown hg
    simp only at e
    subst e
    rw [show w2.heap[w1.heap.size]? = _ from hbx3] at hc
    cases hc
  · dsimp only
    by_cases e : q = i
    · rw [if_pos e]
      exact carry _ _ (owns_base (by have := hB.size; omega) hrow2)
    · rw [if_neg e]
      exact carry _ _ (owns_below (hV q (by omega)) hB2)
  · intro p q hpq hq g g' hg hg'
    dsimp only at hg hg'
    rw [if_neg (by omega)] at hg
    by_cases e : q = i
    · rw [if_pos e] at hg'
      have h1 := (owns_lt hrow2 hg').1
      obtain ⟨_, cur, hc⟩ := owns_lt (hV p (by omega)) hg
      have := (Array.getElem?_eq_some_iff.1 hc).1
      omega
    · rw [if_neg e] at hg'
      exact hap p q hpq (by omega) g g' hg hg'
  · have h0 := hB.trans (hB2.mono hB.size)
    have h1 := h0.alloc h0.size o1
    have h2 := h1.grown hgrow (by have := h0.size; simp; omega) (fun g e => (owns_lt hrow e).1)
    exact h2.setCell (p := ⟨w1.heap.size, 0, none⟩) (Nat.le_refl _) _

theorem box_ne {W : World} {B g : Nat} {v : Value} {cur : Array Value} {e : TypeId} (h : Boxed W B 25 v) (hc : W.heap[g]? = some (.cells cur e (0, 0))) (he : e ≠ 25 := by decide) : g ≠ B := by
  intro eq
  rw [eq, show W.heap[B]? = _ from h] at hc
  simp only [Option.some.injEq, Obj.cells.injEq] at hc
  exact he hc.2.1.symm

set_option maxRecDepth 100000 in
set_option maxHeartbeats 4000000 in
theorem walk (n m y : Int) (hn : 0 ≤ n ∧ n ≤ 255) (hm : 0 ≤ m ∧ m ≤ 255) (hy : 0 ≤ y ∧ y ≤ 255) (w : World) :
    Calls Try.prog 3 #[.int .u8 n, .int .u8 m, .int .u8 y] w fun e w' => e = .returned (.bool true) ∧ Below w.heap.size w w' := by
  obtain ⟨hn1, hn2⟩ := hn
  obtain ⟨hm1, hm2⟩ := hm
  obtain ⟨hy1, hy2⟩ := hy
  obtain ⟨k, hk⟩ : ∃ k : Nat, n % 8 = (k : Int) := ⟨(n % 8).toNat, by omega⟩
  obtain ⟨j, hj⟩ : ∃ j : Nat, m % 8 = (j : Int) := ⟨(m % 8).toNat, by omega⟩
  have hk8 : k < 8 := by omega
  have hj8 : j < 8 := by omega
  go_enter Try.func3, Try.ntmps3
  go_wp2_with fail
  refine (known5 _).mono ?_
  rintro e w1 ⟨rfl, hb1⟩
  have b0 : Below w1.heap.size w1 (w1.alloc (.cells #[.slice none 0 0] 25)) := (Below.refl _ _).alloc (Nat.le_refl _) _
  have inv0 : Inv w1.heap.size j w1 (w1.alloc (.cells #[.slice none 0 0] 25)) 0 := ⟨_, fun _ => .slice none 0 0, Boxed.new w1 25 (.slice none 0 0), World.ownsRow_nil _ _ _ _, fun q hq => by omega, fun p q _ hq => by omega, b0⟩
  have inv0 := hide inv0
  go_wp2_with fail
  rw [hk, hj]
  clear hk hj
  go_loopw [10] (fun iv wr => ∃ i : Nat, i ≤ k ∧ iv = .int .i64 i ∧ Hid (Inv w1.heap.size j w1 wr i)) (fun i _ => k - (intOf i).toNat)
  case atStart => exact ⟨0, Nat.zero_le _, rfl, inv0⟩
  case round =>
    obtain ⟨i, hi, rfl, hinv⟩ := hrel
    obtain ⟨v, V, hbx, hrow, hV, hap, hB⟩ := unhide hinv
    by_cases hlt : i < k
    · have hcv := conv1 wr (97 + i)
      have hrow' := hide hrow
      have hV' := hide hV
      have hap' := hide hap
      clear hrow hV hap hinv inv0
      obtain ⟨W0, e0⟩ : ∃ W0, W0 = wr := ⟨_, rfl⟩
      subst e0
      have inv20 : Inv2 W0 i ((W0.alloc (.cells #[.int .u8 (97 + i)] 5)).alloc (.cells #[.string (mkT i).1, .slice none 0 0] 29)) 0 := by
        refine ⟨_, ?_, World.ownsRow_nil _ _ _ _, ((Below.refl _ _).alloc (Nat.le_refl _) _).alloc (by simp) _⟩
        have := TBox.new (W0.alloc (.cells #[.int .u8 (97 + i)] 5)) (mkT i).1 (.slice none 0 0)
        rwa [World.size_alloc] at this
      have inv20 := hide inv20
      go_wp2_with fail
      rw [str_t i]
      clear hcv
      go_loopw [12] (fun fv wf => ∃ f : Nat, f ≤ j ∧ fv = .int .i64 f ∧ Hid (Inv2 W0 i wf f)) (fun f _ => j - (intOf f).toNat)
      case atStart => exact ⟨0, Nat.zero_le _, rfl, inv20⟩
      case round =>
        obtain ⟨f, hf, rfl, hinv2⟩ := hrel
        obtain ⟨v', htb, hrow2, hB2⟩ := unhide hinv2
        clear hinv2 inv20
        by_cases hfl : f < j
        · have hcv := conv1 wr (97 + f)
          have hc1 := htb.cell1
          have hrow2' := hide hrow2
          clear hrow2
          have hsB := hide hB2.size
          obtain ⟨i1, hi1, hz10, hz11, hz12⟩ := info_parts info31'
          go_wp2_with (at_builtin; refine wpList_append_own _ rfl _ _ 27 rfl (W0.heap.size + 2) 31 i1 (.agg #[.string ⟨#[]⟩, .int .i64 0]) 2 24 Try.underlying27 hi1 hz10 hz11 hz12 rfl (by decide) v' f (newsF (fieldsTo f)) rfl (((unhide hrow2').alloc _).alloc _) ⟨wr.heap.size + 1, 0, none⟩ 1 1 [_, _] rfl rfl (cells_two' _ _ _ _ _) (by simp [Value.oneCell']) (by unfold maxLen; omega) (by omega) (by have := htb.lt; simp; omega) ?_; intro v2 w2 hown hgrow _; obtain ⟨g2, c2, rfl⟩ := ownsRow_succ hown; have htb2 := tb_after htb hgrow (fun g e => by have := (owns_lt (unhide hrow2') e).1; omega); have hd1 := htb2.cell1; have hd2 := htb2.frozen 1; have HO := hide hown; have HG := hide hgrow; clear hown hgrow htb2)
          go_roundw
          case rel => exact ⟨f + 1, by omega, by go_num, hide (inv2_step htb (unhide hrow2') hB2 (unhide HG) (unhide HO))⟩
          case measure => simp [intOf]; omega
        · have hfe : f = j := by omega
          subst hfe
          have hbx2 : Boxed wr w1.heap.size 25 v := (hB2.block w1.heap.size hbx.lt).trans hbx
          have hcs := hbx2.cell
          have hc0 := htb.cell0
          have hc1 := htb.cell1
          obtain ⟨a', c', rfl⟩ : ∃ a c, v' = .slice a f c := by
            rcases hrow2.2 with ⟨rfl, h0⟩ | ⟨g, cap, cur, rfl, _⟩
            · exact ⟨none, 0, by rw [h0]⟩
            · exact ⟨_, _, rfl⟩
          have hrowA := hide (owns_below (unhide hrow') hB2)
          have hrow2' := hide hrow2
          clear hrow2
          obtain ⟨i1, hi1, hz10, hz11, hz12⟩ := info_parts info29
          go_wp2_with (at_builtin; refine wpList_append_own _ rfl _ _ 23 rfl w1.heap.size 29 i1 (.agg #[.string ⟨#[]⟩, .slice none 0 0]) 2 40 Try.underlying23 hi1 hz10 hz11 hz12 rfl (by decide) v i (newsT V i) rfl ((unhide hrowA).alloc _) ⟨wr.heap.size, 0, none⟩ 1 1 [_, _] rfl rfl (cells_two _ _ _ _) (by simp [Value.oneCell']) (by unfold maxLen; omega) (by omega) (by have := hbx2.lt; simp; omega) ?_; intro v2 w2 hown hgrow _; obtain ⟨g2, c2, rfl⟩ := ownsRow_succ hown; have hbx3 := bx_after hbx2 hgrow (unhide hrowA); have hd1 := hbx3.cell; have hd2 := hbx3.frozen; have HO := hide hown; have HG := hide hgrow; have HX := hide hbx3; clear hown hgrow hbx3)
          go_roundw
          case rel => exact ⟨i + 1, by omega, by go_num, hide (inv_step hB (unhide hV') (unhide hap') hB2 (unhide hrow2') (unhide hrowA) (unhide HG) (unhide HX) (unhide HO))⟩
          case measure => simp [intOf]; omega
    · have hie : i = k := by omega
      subst hie
      have hsv : ∃ a c, v = .slice a i c := by
        rcases hrow.2 with ⟨rfl, h0⟩ | ⟨g, cap, cur, rfl, _⟩
        · exact ⟨none, 0, by rw [h0]⟩
        · exact ⟨_, _, rfl⟩
      obtain ⟨a, c, rfl⟩ := hsv
      have hcs := hbx.cell
      have hfin := hide (show Fin0 w1.heap.size i j w1 wr a c from ⟨V, hbx, hrow, hV, hap, hB⟩)
      clear inv0 hinv hrow hV hap
      obtain ⟨G, hG⟩ : ∃ G, isS (typesTo i j) = G := ⟨_, rfl⟩
      have hG2 := hide (is_0 i hk8 j hj8)
      rw [hG] at hG2
      have hG := hide hG
      go_upto_region 14 with fail
      go_cut [13] (fun g wx => g = .bool G ∧ wx = wr)
      case first =>
        by_cases h1 : i ≤ 5
        · by_cases h2 : j ≤ 5
          · have h1' : (i : Int) ≤ 5 := by omega
            have h2' : (j : Int) ≤ 5 := by omega
            have h3 := hide (show G = true by rw [unhide hG2]; simp [h1, h2])
            clear hG2 hfin hG
            go_wp2_with fail
            go_meet
            case rel => exact ⟨by rw [unhide h3], rfl⟩
          · by_cases h0 : i = 0
            · subst h0
              have h2' : ¬ (j : Int) ≤ 5 := by omega
              have h3 := hide (show G = true by rw [unhide hG2]; simp)
              clear hG2 hfin hG
              go_wp2_with fail
              go_meet
              case rel => exact ⟨by rw [unhide h3], rfl⟩
            · have h1' : (i : Int) ≤ 5 := by omega
              have h2' : ¬ (j : Int) ≤ 5 := by omega
              have h0' : ((i : Int) == 0) = false := by simp; omega
              have h3 := hide (show G = false by rw [unhide hG2]; simp [h1, h2, h0])
              clear hG2 hfin hG
              go_wp2_with fail
              go_meet
              case rel => exact ⟨by rw [unhide h3], rfl⟩
        · have h1' : ¬ (i : Int) ≤ 5 := by omega
          have h3 := hide (show G = false by rw [unhide hG2]; simp [h1])
          clear hG2 hfin hG
          go_wp2_with fail
          go_meet
          case rel => exact ⟨by rw [unhide h3], rfl⟩
      case rest =>
        obtain ⟨rfl, rfl⟩ := hcut
        have hmb := hb1.trans ((unhide hfin).choose_spec.2.2.2.2.mono hb1.size)
        have hyn : y % 3 = 0 ∨ y % 3 = 1 ∨ y % 3 = 2 := by omega
        by_cases hA : y % 3 = 1 ∧ 1 < i
        · obtain ⟨hy1', hi1⟩ := hA
          obtain ⟨p, rfl⟩ : ∃ p, i = p + 2 := ⟨i - 2, by omega⟩
          have hS := hide (is_1 (p + 2) hk8 hi1 j hj8)
          obtain ⟨V, _, hrow, _⟩ := unhide hfin
          obtain ⟨g, rfl, hbg, hg, hnc, ⟨cur, hcur⟩, hcell, hfz⟩ := owns_cells hrow (by omega)
          have hc1 : wc.cell? ⟨g, p * 2, none⟩ = some (.string (mkT p).1) := (hcell _ (by omega)).trans (newsT_at V (p + 2) p (by omega)).1
          have hc2 : wc.cell? ⟨g, (p + 1) * 2, none⟩ = some (.string (mkT (p + 1)).1) := (hcell _ (by omega)).trans (newsT_at V (p + 2) (p + 1) (by omega)).1
          have hf2 := hfz ((p + 1) * 2)
          have hi1' : (1 : Int) < ((p + 2 : Nat) : Int) := by omega
          clear hrow hcell hfz hyn hG hG2
          have e1 : ((p + 2 : Nat) : Int) - 1 = ((p + 1 : Nat) : Int) := by omega
          have e2 : ((p + 2 : Nat) : Int) - 2 = (p : Int) := by omega
          have e3 : IntKind.i64.wrap ((p + 1 : Nat) : Int) = ((p + 1 : Nat) : Int) := by rw [IntKind.wrap_i64]; omega
          have e4 : IntKind.i64.wrap (p : Int) = (p : Int) := by rw [IntKind.wrap_i64]; omega
          have e5 : ((p + 1 : Nat) : Int) < ((p + 2 : Nat) : Int) := by omega
          have e6 : (p : Int) < ((p + 2 : Nat) : Int) := by omega
          have e7 : (0 : Int) ≤ ((p + 1 : Nat) : Int) := by omega
          have e8 : (0 : Int) ≤ (p : Int) := by omega
          have hT := (typs_1 hj8 (unhide hfin)).on (Below.refl _ _).drew
          have hm : (types1 (p + 2) j).length ≤ maxLen := by simp [types1]; unfold maxLen; omega
          have c6 := is6 _ c _ hm _ hT
          rw [unhide hS, show (types1 (p + 2) j).length = p + 2 by simp [types1]] at c6
          have c6 := hide c6
          have hne : g ≠ w1.heap.size := box_ne (unhide hfin).choose_spec.1 hcur
          have hcs2 : (wc.setCell ⟨g, (p + 1) * 2, none⟩ (.string (mkT p).1)).cell? ⟨w1.heap.size, 0, none⟩ = some (.slice (some ⟨g, 0, none⟩) (p + 2) c) := (World.cell?_setCell_other _ _ _ _ (fun e => hne (Addr.mk.inj e).1)).trans hcs
          have hmb2 : Below w.heap.size w (wc.setCell ⟨g, (p + 1) * 2, none⟩ (.string (mkT p).1)).drew := (hmb.setCell (p := ⟨g, (p + 1) * 2, none⟩) (Nat.le_trans hb1.size hbg) _).drew
          clear hT hm hfin hS hcur hne hbg hmb
          go_wp2_with fail
          go_region
          all_goals
            go_wp2_with fail
            refine (unhide c6).mono ?_
            rintro e w3 ⟨rfl, hb3⟩
            go_wp2_with fail
            go_ret
            exact ⟨rfl, hmb2.trans (hb3.mono hmb2.size)⟩
        · by_cases hBm : y % 3 = 2 ∧ 0 < i ∧ 1 < j
          · obtain ⟨hy1', hi1, hj1⟩ := hBm
            obtain ⟨p, rfl⟩ : ∃ p, i = p + 1 := ⟨i - 1, by omega⟩
            obtain ⟨r, rfl⟩ : ∃ r, j = r + 2 := ⟨j - 2, by omega⟩
            have hS := hide (is_2 (p + 1) hk8 hi1 (r + 2) hj8 hj1)
            obtain ⟨V, hbxc, hrow, hV, _⟩ := unhide hfin
            obtain ⟨g, rfl, hbg, hg, hnc, ⟨cur, hcur⟩, hcell, _⟩ := owns_cells hrow (by omega)
            have hV0 := hV 0 (by omega)
            obtain ⟨a0, c0, e0⟩ := V_form hV0
            rw [e0] at hV0
            obtain ⟨g0, rfl, hbg0, hg0, hnc0, ⟨cur0, hcur0⟩, hcell0, hfz⟩ := owns_cells hV0 (by omega)
            have hc1 : wc.cell? ⟨g, 1, none⟩ = some (.slice (some ⟨g0, 0, none⟩) (r + 2) c0) := by
              have := (hcell 1 (by omega)).trans (newsT_at V (p + 1) 0 (by omega)).2
              rwa [e0] at this
            have hat : ∀ f, f < r + 2 → wc.cell? ⟨g0, f * 2, none⟩ = some (.string (mkF f).1) := fun f hf => by
              have h1 := (newsF_at (fieldsTo (r + 2)) f (by rw [fieldsTo_len]; exact hf)).1
              rw [show fd (fieldsTo (r + 2)) f = (mkF f, ((1 + f % 3 : Nat) : Int)) by simp [fd, fieldsTo, hf]] at h1
              exact (hcell0 _ (by omega)).trans h1
            have hc2 : wc.cell? ⟨g0, 0, none⟩ = some (.string (mkF 0).1) := hat 0 (by omega)
            have hc3 : wc.cell? ⟨g0, (r + 1) * 2, none⟩ = some (.string (mkF (r + 1)).1) := hat (r + 1) (by omega)
            have hf3 := hfz ((r + 1) * 2)
            have hT := (typs_2 hj8 (unhide hfin) hc1).on (Below.refl _ _).drew
            have hm : (types2 (p + 1) (r + 2)).length ≤ maxLen := by simp [types2]; unfold maxLen; omega
            have c6 := is6 _ c _ hm _ hT
            rw [unhide hS, show (types2 (p + 1) (r + 2)).length = p + 1 by simp [types2]] at c6
            have c6 := hide c6
            have hne : g0 ≠ w1.heap.size := box_ne hbxc hcur0
            have hcs2 : (wc.setCell ⟨g0, (r + 1) * 2, none⟩ (.string (mkF 0).1)).cell? ⟨w1.heap.size, 0, none⟩ = some (.slice (some ⟨g, 0, none⟩) (p + 1) c) := (World.cell?_setCell_other _ _ _ _ (fun e => hne (Addr.mk.inj e).1)).trans hcs
            have hmb2 : Below w.heap.size w (wc.setCell ⟨g0, (r + 1) * 2, none⟩ (.string (mkF 0).1)).drew := (hmb.setCell (p := ⟨g0, (r + 1) * 2, none⟩) (Nat.le_trans hb1.size hbg0) _).drew
            have e1 : ((r + 2 : Nat) : Int) - 1 = ((r + 1 : Nat) : Int) := by omega
            have e3 : IntKind.i64.wrap ((r + 1 : Nat) : Int) = ((r + 1 : Nat) : Int) := by rw [IntKind.wrap_i64]; omega
            have e5 : ((r + 1 : Nat) : Int) < ((r + 2 : Nat) : Int) := by omega
            have e7 : (0 : Int) ≤ ((r + 1 : Nat) : Int) := by omega
            have e9 : (0 : Int) < ((r + 2 : Nat) : Int) := by omega
            have e10 : (0 : Int) < ((p + 1 : Nat) : Int) := by omega
            have e11 : (1 : Int) < ((r + 2 : Nat) : Int) := by omega
            clear hT hm hfin hS hcur hcur0 hne hbg hbg0 hmb hat hcell hcell0 hfz hrow hV hV0 e0 hbxc hyn hG hG2 hA hi1 hj1
            go_wp2_with fail
            go_region
            all_goals
              go_wp2_with fail
              refine (unhide c6).mono ?_
              rintro e w3 ⟨rfl, hb3⟩
              go_wp2_with fail
              go_ret
              exact ⟨rfl, hmb2.trans (hb3.mono hmb2.size)⟩
          · have hT := typs_0 hj8 (unhide hfin)
            have hm : (typesTo i j).length ≤ maxLen := by rw [typesTo_len]; unfold maxLen; omega
            have c6 := is6 a c (typesTo i j) hm wc hT
            rw [typesTo_len, unhide hG] at c6
            have c6 := hide c6
            have hcase : (y % 3 = 1 ∧ i ≤ 1) ∨ (y % 3 = 2 ∧ i = 0) ∨ (y % 3 = 2 ∧ 0 < i ∧ j ≤ 1) ∨ y % 3 = 0 := by omega
            clear hT hA hBm hyn hfin hG2 hG
            rcases hcase with ⟨h1, h2⟩ | ⟨h1, rfl⟩ | ⟨h1, h2, h3⟩ | h1
            · have h2' : ¬ (1 : Int) < i := by omega
              go_wp2_with fail
              refine (unhide c6).mono ?_
              rintro e w3 ⟨rfl, hb3⟩
              go_wp2_with fail
              go_ret
              exact ⟨by simp, hmb.trans (hb3.mono hmb.size)⟩
            · go_wp2_with fail
              refine (unhide c6).mono ?_
              rintro e w3 ⟨rfl, hb3⟩
              go_wp2_with fail
              go_ret
              exact ⟨by simp, hmb.trans (hb3.mono hmb.size)⟩
            · have h2' : (0 : Int) < i := by omega
              have h3' : ¬ (1 : Int) < j := by omega
              go_wp2_with fail
              refine (unhide c6).mono ?_
              rintro e w3 ⟨rfl, hb3⟩
              go_wp2_with fail
              go_ret
              exact ⟨by simp, hmb.trans (hb3.mono hmb.size)⟩
            · go_wp2_with fail
              refine (unhide c6).mono ?_
              rintro e w3 ⟨rfl, hb3⟩
              go_wp2_with fail
              go_ret
              exact ⟨by simp, hmb.trans (hb3.mono hmb.size)⟩

end Go.Proofs.Ytndjoopnldnckaa.schemaLimits
