/-
  What all gives: the pieces of its parts, one part behind the other.
  What whole makes of pieces: their text.
-/
import Derived.Test.YtfofpenajkaalaaDoorPieces
import Derived.Test.YtfofpenajkaalaaDoorBuild
namespace Go.Proofs.YtfofpenajkaalaaDoor
open Go.RowKit Go.Shelf

attribute [local go_sem] Oper.semAt_some

/-- The marks that loops over functions leave behind. -/
abbrev markL (ls : List Nat) : List Deferred := ls.map fun D => { target := .collected D, args := #[] }
def Marks (B : Nat) (ls : List Nat) (W : World) : Prop := ls.Nodup ∧ ∀ D ∈ ls, B ≤ D ∧ W.heap[D]? = some (.deferred (some []))
theorem Marks.nil (B : Nat) (W : World) : Marks B [] W := ⟨List.nodup_nil, fun _ h => by cases h⟩
theorem Marks.lt {B : Nat} {ls : List Nat} {W : World} (h : Marks B ls W) {D : Nat} (hD : D ∈ ls) : D < W.heap.size := (Array.getElem?_eq_some_iff.1 (h.2 D hD).2).1
theorem Marks.keeps {B : Nat} {ls : List Nat} {W W' : World} (h : Marks B ls W) (hk : KeepsFrom B W W') : Marks B ls W' :=
  ⟨h.1, fun D hD => ⟨(h.2 D hD).1, hk.same D _ (h.2 D hD).1 (h.2 D hD).2 rfl⟩⟩
/-- Marks that lie below B' abide what is turned from there on. -/
theorem Marks.own {β : Type} (B B' : Nat) (ls : List Nat) : OwnP okN B' (fun (_ : β) W => Marks B ls W ∧ ∀ D ∈ ls, D < B') := fun _ W W1 row hs hg hr =>
  ⟨⟨hs.1.1, fun D hD => ⟨(hs.1.2 D hD).1, (hg.block D (hs.1.lt hD) (fun e => by have := (hr D e.symm).1; have := hs.2 D hD; omega)).trans (hs.1.2 D hD).2⟩⟩, hs.2⟩
theorem Marks.cons {B D : Nat} {ls : List Nat} {W : World} (h : Marks B ls W) (hB : B ≤ D) (hD : W.heap[D]? = some (.deferred (some []))) (hn : D ∉ ls) : Marks B (D :: ls) W :=
  ⟨List.nodup_cons.2 ⟨hn, h.1⟩, fun D' h' => by
    rcases List.mem_cons.1 h' with rfl | h'
    · exact ⟨hB, hD⟩
    · exact h.2 D' h'⟩

theorem leaves_marks {fn : Func} {tmps : Array Value} {R : Ending → World → Prop} {B n : Nat} {K : World → Prop} (hK : OwnP okN B (fun (_ : Unit) W => K W)) (hfin : ∀ W, K W → LeavesInM Fence.wide n Tryd.prog fn tmps R [] .returning W) :
    ∀ (ls : List Nat) (W : World), Marks B ls W → K W → LeavesInM Fence.wide n Tryd.prog fn tmps R (markL ls) .returning W
  | [], W, _, hk => hfin W hk
  | D :: ls, W, hm, hk => by
    obtain ⟨hB, hD⟩ := hm.2 D (List.mem_cons_self ..)
    obtain ⟨hn, hnd⟩ := List.nodup_cons.1 hm.1
    refine ⟨by simp, .inl ⟨D, _, rfl, run_takeDeferred hD, leaves_marks hK hfin ls _ ⟨hnd, fun D' hD' => ?_⟩ (hK.putObj (s := ()) _ hk hB hD rfl)⟩⟩
    obtain ⟨h1, h2⟩ := hm.2 D' (List.mem_cons_of_mem _ hD')
    exact ⟨h1, (World.putObj_heap_other (fun e => hn (by rw [← e]; exact hD'))).trans h2⟩

set_option maxRecDepth 100000 in
set_option maxHeartbeats 4000000 in
theorem all1_gives (B : Nat) (v : Value) (vs : List Value) (pss : List (List ByteArray)) (hlen : vs.length = pss.length) (m : Nat) (w0 : World) (hP : ∀ (j : Nat) u ps, vs[j]? = some u → pss[j]? = some ps → Pcs m w0 u ps)
    (n₀ : Nat) (X : Nat → World → Prop) (Gd : World → Prop) (hcl : ClsG n₀ X Gd) (hn₀ : w0.heap.size ≤ n₀) (W : World) (hs0 : SmB m w0.heap.size w0 W) (hz0 : w0.heap.size ≤ W.heap.size) (hG : Gd W) (hB : Box W B 89 #[v]) (hv : RowV m n₀ W v vs) :
    Gives pss.flatten 57 #[.pointer (some ⟨B, 0, none⟩)] X Gd W := by
  intro l J Jx B0 hB0 hJ hJx hY h0
  obtain ⟨a, c, rfl, hle, hcs⟩ := hv
  replace hcs := hide hcs
  refine callsIn_wide.1 (show CallsIn Fence.wide 5 _ _ _ _ _ from ?_)
  obtain ⟨Wb, hWb⟩ : ∃ Wb, Wb = W.alloc (.cells #[.func (.yield l) #[] #[]] 53) := ⟨_, rfl⟩
  have yb : Box Wb W.heap.size 53 #[.func (.yield l) #[] #[]] := by rw [hWb]; exact Box.new _ _ _
  have nY : ¬ X W.heap.size Wb := by rw [hWb]; exact hcl.cls.new W _ hG
  have kb : KeepX X Gd W Wb := by rw [hWb]; exact KeepX.alloc hcl.cls _ _
  have gb : Gd Wb := (kb hG).1
  have jb : J [] Wb := by rw [hWb]; exact hJ.alloc _ h0
  have hB' : Box Wb B 89 #[.slice a vs.length c] := by rw [hWb]; exact hB.alloc _
  have hb0 := hB'.one.1
  refine callsIn_of_wp_marks Tryd.func57 rfl trivial ?_ rfl
  simp only [Tryd.ntmps57, List.size_toArray, List.length_cons, List.length_nil, Nat.reduceAdd, Nat.reduceSub, Array.replicate_succ, Array.replicate_zero, List.push_toArray, List.append_toArray, List.nil_append, List.cons_append]
  gi_upto_region 1 with fail
  rw [← hWb]
  clear hWb
  gi_wp2_with fail
  refine wpIn_loop (fun a' w' => ∃ (k : Nat) (ls : List Nat) (u4 u5 u9 u10 u11 u12 u13 u14 u15 u16 u17 u18 : Value), k ≤ pss.length ∧ a' = { tmps := #[.func (.yield l) #[] #[], .pointer (some ⟨B, 0, none⟩), .pointer (some ⟨W.heap.size, 0, none⟩), undef, u4, u5, .slice a pss.length c, .int .i64 pss.length, .int .i64 k, u9, u10, u11, u12, u13, u14, u15, u16, u17, u18], defers := markL ls } ∧ J (pss.take k).flatten w' ∧ KeepX X Gd Wb w' ∧ Marks B0 ls w') (fun a' _ => pss.length - (intOf (a'.tmps.getD 8 undef)).toNat) ?_ ?_
  · exact ⟨0, [], _, _, _, _, _, _, _, _, _, _, _, _, Nat.zero_le _, rfl, jb, KeepX.refl _ _ _, Marks.nil _ _⟩
  rintro _ wr ⟨k, ls, u4, u5, u9, u10, u11, u12, u13, u14, u15, u16, u17, u18, hk, rfl, hJs, hkr, hmk⟩
  have hWb0 : W.heap.size ≤ Wb.heap.size := (kb hG).2.1
  have gr := (hkr gb).1
  have szr : Wb.heap.size ≤ wr.heap.size := (hkr gb).2.1
  by_cases hlt : k < pss.length
  · have hkl : (k : Int) < pss.length := by omega
    obtain ⟨ps, hps⟩ : ∃ ps, pss[k]? = some ps := ⟨_, List.getElem?_eq_getElem hlt⟩
    obtain ⟨u, hu⟩ : ∃ u, vs[k]? = some u := ⟨_, List.getElem?_eq_getElem (by omega)⟩
    obtain ⟨b, o, rfl, -, hb, hc⟩ := unhide hcs k u hu
    obtain ⟨g, lb, rfl, en, -, H⟩ := hP k u ps hu hps
    have sr : Sm n₀ W wr := (kb.trans hkr).sm hcl.cls hG
    have hc' := sr.cell hb hc
    have htk := hide (show (pss.take (k + 1)).flatten = (pss.take k).flatten ++ ps by rw [List.take_add_one, hps]; simp)
    have hdr := hide (show pss.flatten = (pss.take k).flatten ++ (ps ++ (pss.drop (k + 1)).flatten) by
      conv => lhs; rw [← List.take_append_drop (k + 1) pss, List.flatten_append, unhide htk, List.append_assoc])
    have hsq : SmB m w0.heap.size w0 wr := hs0.trans (SmB.of (sr.less hn₀))
    replace hsq := hide hsq
    replace hP := hide hP
    replace H := hide H
    clear hc hu hps
    have hls : ∀ D ∈ ls, D < wr.heap.size := fun D hD => hmk.lt hD
    replace hls := hide hls
    gi_wp2_with fail
    refine wpIn_rangeFunc_told (ok := okN) (fun o h => h) rfl (by decide) (gf := g) (lb := lb) rfl trivial en
      (Gives.told hcl gr _ (fun W' hb' hG' => unhide H n₀ X Gd hcl hn₀ W' ((unhide hsq).trans (SmB.below (hb'.mono (by omega)))) (Nat.le_trans (by omega) hb'.size) hG')) KeepX.trans
      (fun W' l' o' o'' hl h hc hw => KeepX.put hcl.cls W' h hc o'') (Below.refl _ _) (fun _ => rfl)
      (fun pre' W' => (J ((pss.take k).flatten ++ pre') W' ∧ KeepX X Gd wr W') ∧ (Marks B0 ls W' ∧ ∀ D ∈ ls, D < wr.heap.size))
      (fun c pre' W' => (c = .ret ∧ Jx ((pss.take k).flatten ++ pre') W') ∧ (Marks B0 ls W' ∧ ∀ D ∈ ls, D < wr.heap.size))
      (fun s A C row hs hg hr => ⟨⟨(hJ.mono (by omega)) _ A C row hs.1.1 hg hr, KeepX.own hcl gr s A C row hs.1.2 hg hr⟩, Marks.own _ _ _ s A C row hs.2 hg hr⟩)
      (fun c s A C row hs hg hr => ⟨⟨hs.1.1, (hJx.mono (by omega)) _ A C row hs.1.2 hg hr⟩, Marks.own _ _ _ s A C row hs.2 hg hr⟩)
      ⟨⟨by rw [List.append_nil]; exact hJs, KeepX.refl _ _ _⟩, hmk, unhide hls⟩
      (fun pre' x a1 _ => ElS ps pre' x wr ∧ a1 = { tmps := #[.func (.yield l) #[] #[], .pointer (some ⟨B, 0, none⟩), .pointer (some ⟨W.heap.size, 0, none⟩), undef, .func (.func g) #[] lb, .string x, .slice (some ⟨b, o, none⟩) pss.length c, .int .i64 pss.length, .int .i64 k, .bool true, .pointer (some ⟨b, o + k, none⟩), .func (.func g) #[] lb, .func (.func g) #[] lb, .string x, u14, u15, u16, u17, u18], defers := [] })
      (fun pre' x a1 => fun _ _ _ _ hs _ _ => hs) ?assign ?body ?done ?stop
    case assign =>
      rintro l2 pre' x W1 K hi he hK
      gi_wp2_with fail
      exact hK _ _ (KeepsFrom.refl _ _) (KeepX.refl _ _ _) hi ⟨he, rfl⟩
    case body =>
      rintro l2 pre' x a1 W1 ⟨⟨hJ1, hk1⟩, hm1, hmd⟩ ⟨⟨rest, hr⟩, rfl⟩
      obtain ⟨yb1, nY1⟩ := (hkr.trans hk1).box gb yb nY
      have hy0 := yb1.one.1
      obtain ⟨fn, tmps, assign, body, hy, hR⟩ := hY 2 _ x W1 hJ1 ⟨rest ++ (pss.drop (k + 1)).flatten, by rw [unhide hdr, ← hr]; simp⟩
      dsimp only [encS] at hy
      gi_wp2_with fail
      refine RoundIn.mono (show RoundIn (Fence.wide.inRound l2) 2 _ _ _ _ _ _ _ _ from hR) ?_
      rintro e W3 ⟨hkf, ⟨rfl, hJ3, hk3⟩ | ⟨rfl, hJx3⟩⟩
      · gi_wp2_with fail
        exact ⟨⟨hkf.size, fun k o hk h ho => hkf.same k o (by omega) h ho⟩, hk3, ⟨by rw [← List.append_assoc]; exact hJ3, hk1.trans hk3⟩, hm1.keeps hkf, hmd⟩
      · gi_wp2_with fail
        exact ⟨⟨hkf.size, fun k o hk h ho => hkf.same k o (by omega) h ho⟩, ⟨rfl, by rw [← List.append_assoc]; exact hJx3⟩, hm1.keeps hkf, hmd⟩
    case done =>
      rintro D xs W1 hD rfl ⟨⟨hJ1, hk1⟩, hm1, hmd⟩ hK
      gi_wp2_with fail
      refine ⟨⟨k + 1, D :: ls, _, _, _, _, _, _, _, _, _, _, _, _, by omega, rfl, by rw [unhide htk]; exact hJ1, hkr.trans hk1, hm1.cons (by omega) hK (fun h => by have := hmd D h; omega)⟩, ?_⟩
      simp [intOf]; omega
    case stop =>
      rintro D c' pre' W1 hD ⟨rest, hr⟩ ⟨⟨rfl, hJ1⟩, hm1, hmd⟩ hK
      gi_wp2_with fail
      refine leaves_marks (B := B0) (K := fun W' => Jx ((pss.take k).flatten ++ pre') W') (fun _ A C row hs hg hr => hJx _ A C row hs hg hr) (fun W' hk' => ⟨_, results_none rfl _ _ _, ⟨_, rfl⟩, .inr ⟨_, ⟨rest ++ (pss.drop (k + 1)).flatten, by rw [unhide hdr, ← hr]; simp⟩, hk'⟩⟩) (D :: ls) W1 (hm1.cons (by omega) hK (fun h => by have := hmd D h; omega)) hJ1
  · have hke : (pss.take k).flatten = pss.flatten := by rw [List.take_of_length_le (by omega)]
    replace hke := hide hke
    gi_wp2_with fail
    refine leaves_marks (B := B0) (K := fun W' => J (pss.take k).flatten W') (fun _ A C row hs hg hr => hJ _ A C row hs hg hr) (fun W' hk' => ⟨_, results_none rfl _ _ _, ⟨_, rfl⟩, .inl ⟨_, unhide hke, hk'⟩⟩) ls wr hmk hJs

theorem pcs_all (m B : Nat) (hm : m ≤ B) (v : Value) (vs : List Value) (pss : List (List ByteArray)) (hlen : vs.length = pss.length) (W : World) (hP : ∀ (j : Nat) u ps, vs[j]? = some u → pss[j]? = some ps → Pcs m W u ps) (hB : Box W B 89 #[v]) (hv : RowV m W.heap.size W v vs) :
    Pcs m W (.func (.func 57) #[] #[.pointer (some ⟨B, 0, none⟩)]) pss.flatten :=
  ⟨57, _, rfl, enters_of Tryd.func57 (by kernel_rfl) rfl, Nat.le_refl _, fun n₀ X Gd hcl hn W' hs hz hG => all1_gives B v vs pss hlen m W hP n₀ X Gd hcl hn W' hs hz hG (hB.smk hs hm hB.lt) ((hv.sm hs).mono hn)⟩

set_option maxHeartbeats 1000000 in
theorem all_c (m : Nat) (v : Value) (vs : List Value) (pss : List (List ByteArray)) (hlen : vs.length = pss.length) (w : World) (hm : m ≤ w.heap.size) (hP : ∀ (j : Nat) u ps, vs[j]? = some u → pss[j]? = some ps → Pcs m w u ps) (hv : RowV m w.heap.size w v vs) :
    Calls Tryd.prog 37 #[v] w fun e w' => ∃ u, e = .returned u ∧ Pcs m w' u pss.flatten ∧ Below w.heap.size w w' := by
  obtain ⟨W0, hW0⟩ : ∃ W0, W0 = w.alloc (.cells #[v] 89) := ⟨_, rfl⟩
  have b0 : Below w.heap.size w W0 := by rw [hW0]; exact (Below.refl _ _).alloc (Nat.le_refl _) _
  have x0 : Box W0 w.heap.size 89 #[v] := by rw [hW0]; exact Box.new _ _ _
  have hp := hide (pcs_all m _ hm v vs pss hlen W0 (fun j u ps h1 h2 => (hP j u ps h1 h2).on b0) x0 (hv.on b0))
  obtain ⟨a, c, rfl, -, -⟩ := hv
  replace hlen := hide hlen
  replace hP := hide hP
  go_enter Tryd.func37, Tryd.ntmps37
  go_upto_region 1 with fail
  rw [← hW0]
  clear hW0
  go_wp2_with fail
  go_ret
  exact ⟨_, rfl, unhide hp, b0⟩

end Go.Proofs.YtfofpenajkaalaaDoor

namespace Go.Proofs.YtfofpenajkaalaaDoor
open Go.RowKit Go.Shelf

attribute [local go_sem] Oper.semAt_some

/-- The bytes of pieces, one behind the other. -/
def flatB (ps : List ByteArray) : List UInt8 := ps.flatMap fun x => x.data.toList
theorem flatB_append (a b : List ByteArray) : flatB (a ++ b) = flatB a ++ flatB b := by simp [flatB]
theorem flatB_snoc (a : List ByteArray) (x : ByteArray) : Lib.byteCells (flatB (a ++ [x])) = Lib.byteCells (flatB a) ++ Lib.strCells x := by
  rw [flatB_append, Lib.byteCells_append, Lib.strCells_eq]; simp [flatB]

/-- The blocks that a round turns which writes to the builder b; worlds in which that builder stands. -/
def BX (b : Nat) (k : Nat) (W : World) : Prop := k = b ∨ ∃ p v, W.heap[b]? = some (.cells #[p, v] 69 (0, 0)) ∧ v.ownBlock = some k
def BG (n₀ b : Nat) (W : World) : Prop := ∃ p v, W.heap[b]? = some (.cells #[p, v] 69 (0, 0)) ∧ ∀ g, v.ownBlock = some g → n₀ ≤ g ∧ g < W.heap.size
theorem cells_two {W : World} {b : Nat} {p v p' v' : Value} (h : W.heap[b]? = some (.cells #[p, v] 69 (0, 0))) (k : W.heap[b]? = some (.cells #[p', v'] 69 (0, 0))) : v = v' := by
  rw [h] at k; simp at k; exact k.2
theorem cls_builder (n₀ b : Nat) (hb : n₀ ≤ b) : ClsG n₀ (BX b) (BG n₀ b) where
  low := fun W k ⟨p, v, hv, hg⟩ hx => by
    rcases hx with rfl | ⟨p', v', hv', hk⟩
    · exact ⟨hb, (Array.getElem?_eq_some_iff.1 hv).1⟩
    · have := cells_two hv hv'; subst this; exact hg k hk
  grow := fun W W1 row ⟨p, v, hv, hg⟩ hgr hrow => by
    have hb1 : W1.heap[b]? = W.heap[b]? := hgr.block b (Array.getElem?_eq_some_iff.1 hv).1 fun e => by
      obtain ⟨o, ho, hc⟩ := hrow b e.symm
      rw [hv] at ho; cases ho; cases hc
    refine ⟨⟨p, v, hb1.trans hv, fun g h => ⟨(hg g h).1, Nat.lt_of_lt_of_le (hg g h).2 hgr.size⟩⟩, fun k hx => ?_⟩
    rcases hx with rfl | ⟨p', v', hv', hk⟩
    · exact .inl rfl
    · exact .inr ⟨p', v', hb1.symm.trans hv', hk⟩

theorem builder_at {n₀ b : Nat} {bs : List Value} {W : World} (h : Lib.IsBuilderF 69 5 n₀ b bs W) : n₀ ≤ b ∧ ∃ p v, W.heap[b]? = some (.cells #[p, v] 69 (0, 0)) ∧ W.ownsRowF n₀ 5 1 v bs.length bs := by
  rcases h with ⟨hB, v, h1, h2, -⟩ | ⟨hB, v, h1, h2, -⟩
  · exact ⟨hB, _, v, h1, h2⟩
  · exact ⟨hB, _, v, h1, h2⟩
theorem builder_good {n₀ b : Nat} {bs : List Value} {W : World} (h : Lib.IsBuilderF 69 5 n₀ b bs W) : BG n₀ b W := by
  obtain ⟨-, p, v, h1, h2⟩ := builder_at h
  exact ⟨p, v, h1, h2.lt⟩
theorem owns_cellsF {n₀ n : Nat} {xs : List Value} {v : Value} {W : World} (h : W.ownsRowF n₀ 5 1 v n xs) {g : Nat} (hg : v.ownBlock = some g) : ∃ c fz, W.heap[g]? = some (.cells c 5 fz) := by
  rcases h.2 with ⟨rfl, -⟩ | ⟨g', cap, cur, fz, rfl, -, h1, -⟩
  · cases hg
  · cases hg; exact ⟨cur, fz, h1⟩
theorem keepX_only {n₀ b : Nat} {bs : List Value} {p v p' v' : Value} {W W' : World} (h : Only b p v p' v' W W') (h' : Lib.IsBuilderF 69 5 n₀ b bs W') : KeepX (BX b) (BG n₀ b) W W' := fun _ => by
  obtain ⟨h1, h2, h3, h4, h5⟩ := h
  refine ⟨builder_good h', h3, fun k o hk hc hx => ?_⟩
  have hlt := (Array.getElem?_eq_some_iff.1 hk).1
  have hkb : k ≠ b := fun e => hx (.inl e)
  have hkv : v.ownBlock ≠ some k := fun e => hx (.inr ⟨p, v, h1, e⟩)
  refine ⟨(h4 k hlt hkb hkv).trans hk, fun hx' => ?_⟩
  rcases hx' with e | ⟨p2, v2, hv2, hk2⟩
  · exact hkb e
  · have := cells_two h2 hv2; subst this
    rcases h5 with e | ⟨g, e, hg⟩
    · exact hkv (e ▸ hk2)
    · rw [hk2] at e; cases e; omega
theorem keeps_only {n₀ b m : Nat} {bs : List Value} {p v p' v' : Value} {W W' : World} (h : Only b p v p' v' W W') (hb : Lib.IsBuilderF 69 5 n₀ b bs W) : KeepsFrom m W W' := by
  obtain ⟨h1, h2, h3, h4, h5⟩ := h
  obtain ⟨-, p2, v2, hv2, hown⟩ := builder_at hb
  have e := cells_two h1 hv2; subst e
  refine ⟨h3, fun k o _ hk ho => (h4 k (Array.getElem?_eq_some_iff.1 hk).1 (fun e => ?_) (fun e => ?_)).trans hk⟩
  · subst e; rw [h1] at hk; cases hk; cases ho
  · obtain ⟨c, fz, hc⟩ := owns_cellsF hown e
    rw [hc] at hk; cases hk; cases ho
theorem builder_own {β : Type} (n₀ b B : Nat) (f : β → List Value) : OwnP okN B (fun s W => Lib.IsBuilderF 69 5 n₀ b (f s) W) := fun s W W1 row hs hg hr => by
  have hb : ∀ p v, W.heap[b]? = some (.cells #[p, v] 69 (0, 0)) → W1.heap[b]? = some (.cells #[p, v] 69 (0, 0)) := fun p v hv => (hg.block b (Array.getElem?_eq_some_iff.1 hv).1 fun e => by
    obtain ⟨o, ho, hc⟩ := (hr b e.symm).2
    rw [hv] at ho; cases ho; cases hc).trans hv
  have ho : ∀ v, W.ownsRowF n₀ 5 1 v (f s).length (f s) → W1.ownsRowF n₀ 5 1 v (f s).length (f s) := fun v hv => hv.kept hg (by
    cases hv2 : v.ownBlock with
    | none => exact .inl rfl
    | some g =>
      refine .inr fun e => ?_
      obtain ⟨c, fz, hc⟩ := owns_cellsF hv hv2
      obtain ⟨o, ho, hn⟩ := (hr g e.symm).2
      rw [hc] at ho; cases ho; cases hn)
  rcases hs with ⟨hB, v, h1, h2, h3⟩ | ⟨hB, v, h1, h2, h3⟩
  · exact .inl ⟨hB, v, hb _ _ h1, ho v h2, h3⟩
  · exact .inr ⟨hB, v, hb _ _ h1, ho v h2, h3⟩

set_option maxRecDepth 100000 in
set_option maxHeartbeats 4000000 in
theorem whole_c (m : Nat) (v : Value) (ps : List ByteArray) (w : World) (hp : Pcs m w v ps) (hsz : (flatB ps).length ≤ 140737488355328) :
    Calls Tryd.prog 21 #[v] w fun e w' => e = .returned (.string ⟨(flatB ps).toArray⟩) ∧ Below w.heap.size w w' := by
  obtain ⟨s, es⟩ : ∃ s, s = w.heap.size := ⟨_, rfl⟩
  obtain ⟨W0, hW0⟩ : ∃ W0, W0 = w.alloc (.cells #[.pointer none, .slice none 0 0] 69) := ⟨_, rfl⟩
  have b0 : Below s w W0 := by rw [hW0, es]; exact (Below.refl _ _).alloc (Nat.le_refl _) _
  have x0 : W0.heap[s]? = some (.cells #[.pointer none, .slice none 0 0] 69 (0, 0)) := by rw [hW0, es]; exact World.alloc_heap_new _ _
  have hbd : Lib.IsBuilderF 69 5 s s [] W0 := .inl ⟨Nat.le_refl _, _, x0, World.ownsRowF_nil _ _ _ _, by simp [Value.ownBlock]⟩
  have e0 : W0.heap.size = s + 1 := by rw [hW0, es]; simp
  have hcl := cls_builder s s (Nat.le_refl _)
  obtain ⟨g, lb, rfl, en, -, H⟩ := hp
  have HH : ∀ W', Below W0.heap.size W0 W' → BG s s W' → Gives ps g lb (BX s) (BG s s) W' := fun W' hb' hG' =>
    H s (BX s) (BG s s) hcl (Nat.le_of_eq es.symm) W' (by rw [← es]; exact SmB.below (b0.trans (hb'.mono (by omega)))) (by rw [← es]; have := hb'.size; omega) hG'
  refine callsIn_wide.1 (show CallsIn Fence.wide 5 _ _ _ _ _ from ?_)
  refine callsIn_of_wp_marks Tryd.func21 rfl trivial ?_ rfl
  simp only [Tryd.ntmps21, List.size_toArray, List.length_cons, List.length_nil, Nat.reduceAdd, Nat.reduceSub, Array.replicate_succ, Array.replicate_zero, List.push_toArray, List.append_toArray, List.nil_append, List.cons_append]
  gi_upto_region 2 with fail
  rw [← hW0, ← es]
  clear hW0
  have hws : w.heap.size ≤ s := Nat.le_of_eq es.symm
  have hsw : s ≤ w.heap.size := Nat.le_of_eq es
  replace es := hide es
  replace H := hide H
  gi_wp2_with fail
  refine wpIn_rangeFunc_told (ok := okN) (fun o h => h) rfl (by decide) (gf := g) (lb := lb) rfl trivial en
    (Gives.told hcl (builder_good hbd) _ HH) KeepX.trans
    (fun W' l' o' o'' hl h hc hw => KeepX.put hcl.cls W' h hc o'') (Below.refl _ _) (fun _ => rfl)
    (fun pre W' => Lib.IsBuilderF 69 5 s s (Lib.byteCells (flatB pre)) W' ∧ Below s w W')
    (fun _ _ _ => False)
    (ownP_and (builder_own s s _ (fun (pre : List ByteArray) => Lib.byteCells (flatB pre))) (ownP_below (by omega) (by omega)))
    (fun c => fun _ _ _ _ hs _ _ => hs)
    ⟨hbd, b0⟩
    (fun pre x a1 _ => ElS ps pre x w ∧ a1 = { tmps := #[.func (.func g) #[] lb, undef, .string ⟨#[]⟩, .pointer (some ⟨s, 0, none⟩), .string x, .func (.func g) #[] lb, .string x, undef, undef, undef], defers := [] })
    (fun pre x a1 => fun _ _ _ _ hs _ _ => hs) ?assign ?body ?done ?stop
  case assign =>
    rintro l2 pre x W1 K hi he hK
    gi_wp2_with fail
    exact hK _ _ (KeepsFrom.refl _ _) (KeepX.refl _ _ _) hi ⟨he, rfl⟩
  case body =>
    rintro l2 pre x a1 W1 ⟨hb1, hbel⟩ ⟨⟨rest, hr⟩, rfl⟩
    have hln : (Lib.byteCells (flatB pre)).length + x.size ≤ 140737488355328 := by
      rw [Lib.byteCells_length]
      rw [← hr, flatB_append] at hsz
      simp only [flatB, List.flatMap_cons, List.length_append, Array.length_toList] at hsz ⊢
      have : x.size = x.data.size := rfl
      omega
    have hcall := hide (CallsIn.inRound l2 (callsIn_wide.2 (writeString_c s s _ x W1 hb1 hln (by have := hbel.size; omega))) : CallsIn (Fence.wide.inRound l2) 2 Tryd.prog 42 #[.pointer (some ⟨s, 0, none⟩), .string x] W1 _)
    clear hr
    gi_wp2_with fail
    refine ⟨trivial, ?_⟩
    refine (unhide hcall).mono ?_
    rintro e W3 ⟨⟨u, rfl⟩, hb3, hbe3, p, v, p', v', hon⟩
    rw [← flatB_snoc] at hb3
    gi_wp2_with fail
    exact ⟨keeps_only hon hb1, keepX_only hon hb3, hb3, hbel.trans hbe3⟩
  case done =>
    rintro D xs W1 hD rfl ⟨hb1, hbel⟩ hK
    have hcall := hide (callsIn_wide.2 (Tryd.Builder_String_any_k s s _ W1 hb1 (by have := hbel.size; omega)) : CallsIn Fence.wide 4 Tryd.prog 43 #[.pointer (some ⟨s, 0, none⟩)] W1 _)
    gi_wp2_with fail
    refine ⟨trivial, ?_⟩
    refine (unhide hcall).mono ?_
    rintro e W3 ⟨rfl, hb3, hbe3, hok⟩
    have hK3 : W3.heap[D]? = some (.deferred (some [])) := hok D _ hK (by intro e; cases e; omega) (fun c fz e => by cases e)
    gi_wp2_with fail
    refine ⟨by simp, .inl ⟨_, _, rfl, run_takeDeferred hK3, ?_⟩⟩
    refine ⟨_, results_tmp rfl _ _ _, rfl, ?_⟩
    rw [← unhide es]
    exact (hbel.trans hbe3).trans (belowK_b (w := w) hsw W3 D _ _ (by omega) hK3 rfl rfl)
  case stop =>
    rintro D c pre W1 hD _ h _
    exact h.elim

end Go.Proofs.YtfofpenajkaalaaDoor
