/-
  What the walk over a condition tells: the node, then what is below it, each with its depth, till it is told to stop; for every tree that lies, in whatever world.
-/
import Derived.Test.YtfofpenajkaalaaDoorTree
import Derived.Sort.CutIn
namespace Go.Proofs.YtfofpenajkaalaaDoor
open Go.RowKit Go.Shelf

attribute [local go_sem] Oper.semAt_some

theorem yieldAt_any {m m' : Nat} {P : Program} {l : Nat} {args : Array Value} {W : World} {R : Ending → World → Prop} (h : YieldAt Fence.wide m P l args W R) : YieldAt Fence.wide m' P l args W R := by
  obtain ⟨fn, tmps, assign, body, h1, h2, h3⟩ := h
  exact ⟨fn, tmps, assign, body, h1, h2, fun c cs _ => h3 c cs (room_wide _)⟩

/-- What visit does with a node whose kids lie at a. -/
def VisitC (l n₀ : Nat) (X : Nat → World → Prop) (Gd : World → Prop) (J Jx : List Step → World → Prop) (T : List (Nat × Tree)) (W0 : World) (a : Option Addr) (ks : List Tree) : Prop :=
  ∀ (d : Dat) (cap dp : Nat) (pre : List Step) (W : World) (n : Nat), 1 ≤ dp → dp ≤ 20 → Sm n₀ W0 W → Gd W → J pre W → (∃ rest, pre.map Step.p ++ (walkT dp (.mk d ks) ++ rest) = T) →
    CallsIn Fence.wide n Tryd.prog 63 #[d.v a ks.length cap, .int .i64 dp, .func (.yield l) #[] #[]] W fun e W' =>
      (e = .returned (.bool true) ∧ ∃ xs, xs.map Step.p = walkT dp (.mk d ks) ∧ J (pre ++ xs) W' ∧ KeepX X Gd W W') ∨ (e = .returned (.bool false) ∧ ∃ pre', (∃ rest, pre'.map Step.p ++ rest = T) ∧ Jx pre' W')

theorem Box.seven {W : World} {B : Nat} {t : TypeId} {a b c d e f g : Value} (h : Box W B t #[a, b, c, d, e, f, g]) : W.cell? ⟨B, 0, none⟩ = some a ∧ W.cell? ⟨B, 1, none⟩ = some b ∧ W.cell? ⟨B, 2, none⟩ = some c ∧ W.cell? ⟨B, 3, none⟩ = some d ∧ W.cell? ⟨B, 4, none⟩ = some e ∧ W.cell? ⟨B, 5, none⟩ = some f ∧ W.cell? ⟨B, 6, none⟩ = some g :=
  ⟨h.at 0 rfl, h.at 1 rfl, h.at 2 rfl, h.at 3 rfl, h.at 4 rfl, h.at 5 rfl, h.at 6 rfl⟩

theorem KeepX.box {X : Nat → World → Prop} {Gd : World → Prop} {A B : World} (h : KeepX X Gd A B) (g : Gd A) {b : Nat} {t : TypeId} {cs : Array Value} (hb : Box A b t cs) (hX : ¬ X b A) : Box B b t cs ∧ ¬ X b B := (h g).2.2 b _ hb rfl hX

set_option maxRecDepth 100000 in
set_option maxHeartbeats 4000000 in
theorem visit_step (l n₀ : Nat) (X : Nat → World → Prop) (Gd : World → Prop) (hcl : Cls n₀ X Gd) (J Jx : List Step → World → Prop) (T : List (Nat × Tree)) (hal : ∀ pre W o, J pre W → J pre (W.alloc o))
    (hY : ∀ m pre x W1, J pre W1 → ElT n₀ T pre x W1 → YieldAt Fence.wide m Tryd.prog l x.v W1 fun e W' => (e = .returned (.bool true) ∧ J (pre ++ [x]) W' ∧ KeepX X Gd W1 W') ∨ (e = .returned (.bool false) ∧ Jx (pre ++ [x]) W'))
    (W0 : World) (a : Option Addr) (ks : List Tree) (hL : Lies n₀ W0 a ks)
    (hK : ks = [] ∨ ∃ (b off : Nat) (f : Nat → Option Addr × Nat), a = some ⟨b, off, none⟩ ∧ b < n₀ ∧ (∀ j t, ks[j]? = some t → ∀ i u, (t.dat.cs (f j).1 t.kids.length (f j).2)[i]? = some u → W0.cell? ⟨b, off + j * 7 + i, none⟩ = some u) ∧ ∀ (j : Nat) t, ks[j]? = some t → VisitC l n₀ X Gd J Jx T W0 (f j).1 t.kids) :
    VisitC l n₀ X Gd J Jx T W0 a ks := by
  intro d cap dp pre W n hd1 hd20 hsm hG hJ hT
  have hlen := hL.len
  -- the box of the node
  obtain ⟨Wb, hWb⟩ : ∃ Wb, Wb = W.alloc (.cells (d.cs a ks.length cap) 26) := ⟨_, rfl⟩
  have xb : Box Wb W.heap.size 26 (d.cs a ks.length cap) := by rw [hWb]; exact Box.new _ _ _
  have nX : ¬ X W.heap.size Wb := by rw [hWb]; exact hcl.new W _ hG
  have kb : KeepX X Gd W Wb := by rw [hWb]; exact KeepX.alloc hcl _ _
  have gb : Gd Wb := (kb hG).1
  have jb : J pre Wb := by rw [hWb]; exact hal _ _ _ hJ
  have sb : Sm n₀ W0 Wb := hsm.trans (kb.sm hcl hG)
  obtain ⟨x, hx⟩ : ∃ x : Step, x = ⟨dp, .mk d ks, a, cap⟩ := ⟨_, rfl⟩
  have hEl : ElT n₀ T pre x Wb := by
    obtain ⟨rest, hr⟩ := hT
    rw [hx]
    refine ⟨hL.sm sb, ?_⟩
    rw [walkT] at hr
    exact ⟨_, by rw [← hr]; simp; rfl⟩
  obtain ⟨fn, tmps, assign, body, hy, hR⟩ := (hY (n - 1) pre x Wb jb hEl).mono
    (R' := fun e W' => ∃ bb : Bool, e = .returned (.bool bb) ∧ Hid ((bb = true ∧ J (pre ++ [x]) W' ∧ KeepX X Gd Wb W') ∨ (bb = false ∧ Jx (pre ++ [x]) W')))
    (fun e W' h => by
      rcases h with ⟨rfl, h⟩ | ⟨rfl, h⟩
      · exact ⟨true, rfl, .inl ⟨rfl, h⟩⟩
      · exact ⟨false, rfl, .inr ⟨rfl, h⟩⟩)
  have hxv : x.v = #[.int .i64 dp, d.v a ks.length cap] := by rw [hx]
  rw [hxv] at hy
  have hfin : ∃ rest, (pre ++ [x]).map Step.p ++ rest = T := by
    obtain ⟨_, rest, hr⟩ := hEl
    exact ⟨rest, by rw [← hr]; simp⟩
  have hx1 : [x].map Step.p = [(dp, Tree.mk d ks)] := by rw [hx]; rfl
  replace hx1 := hide hx1
  replace hfin := hide hfin
  replace hEl := hide hEl
  clear hx hxv
  obtain ⟨hc0, hc1, hc2, hc3, hc4, hc5, hc6⟩ := xb.seven
  replace hT := hide hT
  replace hK := hide hK
  refine callsIn_of_wp Tryd.func63 rfl trivial ?_ rfl
  simp only [Tryd.ntmps63, List.size_toArray, List.length_cons, List.length_nil, Nat.reduceAdd, Nat.reduceSub, Array.replicate_succ, Array.replicate_zero, List.push_toArray, List.append_toArray, List.nil_append, List.cons_append]
  gi_upto_region 1 with fail
  rw [← hWb]
  clear hWb
  gi_wp2_with fail
  refine ⟨(fun h => nomatch h), hR.mono ?_⟩
  rintro e W3 ⟨bb, rfl, hbb⟩
  clear hR hy hc0 hc1 hc2 hc3 hc4 hc5 hc6
  rcases unhide hbb with ⟨rfl, hJ3, hk3⟩ | ⟨rfl, hJx3⟩
  case inr =>
    clear hbb
    gi_wp2_with fail
    go_ret
    exact .inr ⟨rfl, _, unhide hfin, hJx3⟩
  clear hbb
  obtain ⟨xb3, nX3⟩ := hk3.box gb xb nX
  have g3 := (hk3 gb).1
  obtain ⟨hc0, hc1, hc2, hc3, hc4, hc5, hc6⟩ := xb3.seven
  by_cases hop : d.op = 0
  · have hw : walkT dp (.mk d ks) = [(dp, Tree.mk d ks)] := by rw [walkT, if_pos (.inl hop)]
    replace hw := hide hw
    rw [hop] at hc0
    gi_wp2_with fail
    go_ret
    exact .inl ⟨rfl, [x], by rw [unhide hx1, unhide hw], hJ3, kb.trans hk3⟩
  by_cases h20 : dp = 20
  · have hw : walkT dp (.mk d ks) = [(dp, Tree.mk d ks)] := by rw [walkT, if_pos (.inr h20)]
    replace hw := hide hw
    have e0 : (d.op == 0) = false := by simp [hop]
    have e20 : ((dp : Int) == 20) = true := by simp; omega
    clear hop h20
    gi_wp2_with fail
    go_ret
    exact .inl ⟨rfl, [x], by rw [unhide hx1, unhide hw], hJ3, kb.trans hk3⟩
  have e0 : (d.op == 0) = false := by simp [hop]
  have e20 : ((dp : Int) == 20) = false := by simp; omega
  have hw : walkT dp (.mk d ks) = (dp, Tree.mk d ks) :: walkL (dp + 1) ks := by rw [walkT, if_neg (by omega)]
  rw [hw] at hT
  replace hw := hide hw
  have hdp : dp < 20 := by omega
  clear hop h20
  gi_wp2_with fail
  gi_loopw [24] (fun i wr => ∃ (k : Nat) (xs : List Step), k ≤ ks.length ∧ i = .int .i64 k ∧ Hid (xs.map Step.p = (dp, Tree.mk d ks) :: walkL (dp + 1) (ks.take k)) ∧ J (pre ++ xs) wr ∧ KeepX X Gd Wb wr) (fun i _ => ks.length - (intOf i).toNat)
  case atStart => exact ⟨0, [x], Nat.zero_le _, rfl, hide (by rw [unhide hx1]; simp [walkL]), hJ3, hk3⟩
  case round =>
    obtain ⟨k, xs, hk, rfl, hxs, hJs, hkr⟩ := hrel
    clear hc0 hc1 hc2 hc3 hc4 hc5 hc6
    by_cases hlt : k < ks.length
    · obtain ⟨t, ht⟩ : ∃ t, ks[k]? = some t := ⟨_, List.getElem?_eq_getElem hlt⟩
      have htk := hide (show ks.take (k + 1) = ks.take k ++ [t] by rw [List.take_succ_eq_append_getElem hlt]; simp [List.getElem?_eq_getElem hlt] at ht; rw [ht])
      have gr := (hkr gb).1
      have sr : Sm n₀ W0 wr := sb.trans (hkr.sm hcl gb)
      rcases unhide hK with h | ⟨b, off, f, ea, hb, hcs, hV⟩
      · rw [h] at hlt; simp at hlt
      have hcs' : ∀ i u, (t.dat.cs (f k).1 t.kids.length (f k).2)[i]? = some u → wr.cell? ⟨b, off + k * 7 + i, none⟩ = some u := fun i u hu => sr.cell hb (hcs k t ht i u hu)
      replace hV := hV k t ht
      clear hcs hK ht
      obtain ⟨dt, kt⟩ := t
      generalize f k = fk at hcs' hV
      obtain ⟨at', ct⟩ := fk
      simp only [Tree.dat, Tree.kids] at hcs' hV
      have hd0 := hcs' 0 _ rfl
      have hd1 := hcs' 1 _ rfl
      have hd2 := hcs' 2 _ rfl
      have hd3 := hcs' 3 _ rfl
      have hd4 := hcs' 4 _ rfl
      have hd5 := hcs' 5 _ rfl
      have hd6 := hcs' 6 _ rfl
      rw [Nat.add_zero] at hd0
      clear hcs'
      subst ea
      obtain ⟨Wk, hWk⟩ : ∃ Wk, Wk = wr.alloc (.cells (dt.cs at' kt.length ct) 26) := ⟨_, rfl⟩
      have kk : KeepX X Gd wr Wk := by rw [hWk]; exact KeepX.alloc hcl _ _
      have xk : Box Wk wr.heap.size 26 (dt.cs at' kt.length ct) := by rw [hWk]; exact Box.new _ _ _
      have cV := hV dt ct (dp + 1) (pre ++ xs) Wk (n - 1) (by omega) (by omega) (sr.trans (kk.sm hcl gr)) (kk gr).1 (by rw [hWk]; exact hal _ _ _ hJs) (by
        obtain ⟨rest, hr⟩ := unhide hT
        refine ⟨walkL (dp + 1) (ks.drop (k + 1)) ++ rest, ?_⟩
        rw [← hr, List.map_append, unhide hxs]
        have e : walkL (dp + 1) ks = walkL (dp + 1) (ks.take k) ++ (walkT (dp + 1) (.mk dt kt) ++ walkL (dp + 1) (ks.drop (k + 1))) := by
          conv => lhs; rw [← List.take_append_drop (k + 1) ks]
          rw [walkL_append, unhide htk, walkL_append]
          simp [walkL]
        rw [e]; simp)
      rw [Int.natCast_add] at cV
      replace cV := hide cV
      have hkl : (k : Int) < ks.length := by omega
      obtain ⟨q0, q1, q2, q3, q4, q5, q6⟩ := xk.seven
      gi_upto_region 8 with fail
      rw [← hWk]
      clear hWk hd0 hd1 hd2 hd3 hd4 hd5 hd6
      gi_wp2_with fail
      refine ⟨trivial, (fun h => nomatch h), ?_⟩
      refine (unhide cV).mono ?_
      rintro e W5 h5
      clear cV q0 q1 q2 q3 q4 q5 q6
      rcases h5 with ⟨rfl, ys, hys, hJ5, hk5⟩ | ⟨rfl, pre', hp', hJx5⟩
      · have hn := hide (show (xs ++ ys).map Step.p = (dp, Tree.mk d ks) :: walkL (dp + 1) (ks.take (k + 1)) by
          rw [List.map_append, unhide hxs, hys, unhide htk, walkL_append]; simp [walkL])
        rw [List.append_assoc] at hJ5
        clear hys
        gi_wp2_with fail
        go_roundw
        case rel => exact ⟨k + 1, xs ++ ys, by omega, by go_num, hn, hJ5, hkr.trans (kk.trans hk5)⟩
        case measure => simp [intOf]; omega
      · replace hp' := hide hp'
        gi_wp2_with fail
        go_ret
        exact .inr ⟨rfl, pre', unhide hp', hJx5⟩
    · have hke : ks.take k = ks := by rw [List.take_of_length_le (by omega)]
      replace hke := hide hke
      gi_wp2_with fail
      go_ret
      exact .inl ⟨rfl, xs, by rw [unhide hxs, unhide hke, unhide hw], hJs, kb.trans hkr⟩

theorem visit_in (l n₀ : Nat) (X : Nat → World → Prop) (Gd : World → Prop) (hcl : Cls n₀ X Gd) (J Jx : List Step → World → Prop) (T : List (Nat × Tree)) (hal : ∀ pre W o, J pre W → J pre (W.alloc o))
    (hY : ∀ m pre x W1, J pre W1 → ElT n₀ T pre x W1 → YieldAt Fence.wide m Tryd.prog l x.v W1 fun e W' => (e = .returned (.bool true) ∧ J (pre ++ [x]) W' ∧ KeepX X Gd W1 W') ∨ (e = .returned (.bool false) ∧ Jx (pre ++ [x]) W'))
    (W0 : World) (a : Option Addr) (ks : List Tree) (hL : Lies n₀ W0 a ks) : VisitC l n₀ X Gd J Jx T W0 a ks := by
  induction hL with
  | nil a => exact visit_step l n₀ X Gd hcl J Jx T hal hY W0 a [] (.nil a) (.inl rfl)
  | row b off ks f hl hb hc hk ih => exact visit_step l n₀ X Gd hcl J Jx T hal hY W0 _ ks (.row b off ks f hl hb hc hk) (.inr ⟨b, off, f, rfl, hb, hc, ih⟩)

theorem walk_c (d : Dat) (a : Option Addr) (m cap : Nat) (w : World) : Calls Tryd.prog 46 #[d.v a m cap] w fun e w' => e = .returned (.func (.func 62) #[] #[.pointer (some ⟨w.heap.size, 0, none⟩)]) ∧ w' = w.alloc (.cells (d.cs a m cap) 26) := by
  go_enter Tryd.func46, Tryd.ntmps46
  go_wp2
  go_ret
  exact ⟨rfl, rfl⟩

set_option maxRecDepth 100000 in
set_option maxHeartbeats 1000000 in
theorem walk1_in (n l B n₀ : Nat) (X : Nat → World → Prop) (Gd : World → Prop) (hcl : Cls n₀ X Gd) (J Jx : List Step → World → Prop) (d : Dat) (a : Option Addr) (ks : List Tree) (cap : Nat) (hal : ∀ pre W o, J pre W → J pre (W.alloc o))
    (hY : ∀ m pre x W1, J pre W1 → ElT n₀ (walkT 1 (.mk d ks)) pre x W1 → YieldAt Fence.wide m Tryd.prog l x.v W1 fun e W' => (e = .returned (.bool true) ∧ J (pre ++ [x]) W' ∧ KeepX X Gd W1 W') ∨ (e = .returned (.bool false) ∧ Jx (pre ++ [x]) W'))
    (W : World) (hL : Lies n₀ W a ks) (hB : Box W B 26 (d.cs a ks.length cap)) (hG : Gd W) (h0 : J [] W) :
    CallsIn Fence.wide n Tryd.prog 62 #[.func (.yield l) #[] #[], .pointer (some ⟨B, 0, none⟩)] W fun e W' => (∃ v, e = .returned v) ∧ ((∃ xs, xs.map Step.p = walkT 1 (.mk d ks) ∧ J xs W') ∨ ∃ pre, (∃ rest, pre.map Step.p ++ rest = walkT 1 (.mk d ks)) ∧ Jx pre W') := by
  obtain ⟨hc0, hc1, hc2, hc3, hc4, hc5, hc6⟩ := hB.seven
  have cV := hide (visit_in l n₀ X Gd hcl J Jx _ hal hY W a ks hL d cap 1 [] W (n - 1) (Nat.le_refl _) (by omega) (Sm.refl _ _) hG h0 ⟨[], by simp⟩)
  refine callsIn_of_wp Tryd.func62 rfl trivial ?_ rfl
  simp only [Tryd.ntmps62, List.size_toArray, List.length_cons, List.length_nil, Nat.reduceAdd, Nat.reduceSub, Array.replicate_succ, Array.replicate_zero, List.push_toArray, List.append_toArray, List.nil_append, List.cons_append]
  gi_wp2_with fail
  refine ⟨trivial, (fun h => nomatch h), ?_⟩
  refine (unhide cV).mono ?_
  rintro e W5 h5
  clear cV
  rcases h5 with ⟨rfl, ys, hys, hJ5, hk5⟩ | ⟨rfl, pre', hp', hJx5⟩
  · replace hys := hide hys
    gi_wp2_with fail
    go_end0
    exact ⟨⟨_, rfl⟩, .inl ⟨ys, unhide hys, hJ5⟩⟩
  · replace hp' := hide hp'
    gi_wp2_with fail
    go_end0
    exact ⟨⟨_, rfl⟩, .inr ⟨pre', unhide hp', hJx5⟩⟩

abbrev okN (o : Obj) : Prop := o.isCells = false

/-- The iterator of a walk tells it. -/
theorem walk_told (n B n₀ : Nat) (X : Nat → World → Prop) (Gd : World → Prop) (hcl : Cls n₀ X Gd) (d : Dat) (a : Option Addr) (ks : List Tree) (cap : Nat) (w : World) (hn₀ : n₀ ≤ w.heap.size) (hL : Lies n₀ w a ks) (hB : Box w B 26 (d.cs a ks.length cap)) (hG : ∀ W, Below w.heap.size w W → Gd W) :
    SeqTold okN Fence.wide n Tryd.prog 62 #[.pointer (some ⟨B, 0, none⟩)] Step.v (KeepX X Gd) (ElT n₀ (walkT 1 (.mk d ks))) (fun xs => xs.map Step.p = walkT 1 (.mk d ks)) (fun pre => ∃ rest, pre.map Step.p ++ rest = walkT 1 (.mk d ks)) w := fun l J Jx W hW hJ _ hY h0 => by
  refine walk1_in n l B n₀ X Gd hcl J Jx d a ks cap (fun pre W o h => hJ.alloc o h) (fun m pre x W1 h1 h2 => yieldAt_any ((hY pre x W1 h1 h2).mono fun _ _ h => h.2)) W (hL.sm (Sm.of_below (hW.mono hn₀))) (hB.on hW hB.lt) (hG W hW) h0

end Go.Proofs.YtfofpenajkaalaaDoor
