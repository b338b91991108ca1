/-
  An event's values behind a change (package evolve: moved): a new row; for every type of at most 5 fields, every change and every row of as many values, in whatever world; nothing that lay is turned.
-/
import Derived.Test.YtcjpaldijngnpaaGreatDoorRow
namespace Go.Proofs.YtcjpaldijngnpaaGreatDoor
open Go.RowKit Go.Shelf

attribute [local go_sem] Oper.semAt_some

/-- A value behind a change, at a field with its place. -/
def mV (c : Ch) (vs : List Vl) (x : Pf) : Vl := if x.1 = -1 then (x.2.2, c.dn, c.ds) else (x.2.2, (vl vs x.1.toNat).2)
/-- The values behind a change. -/
def vNew (nm : Txt) (c : Ch) (fs : List Fd) (vs : List Vl) : List Vl := (fAll (nm.1.toList == c.t.1.toList) c fs).map (mV c vs)

theorem cell_three_new' (W : World) (o : Obj) (x y z : Value) (t : TypeId) : ∀ j u, [x, y, z][j]? = some u → ((W.alloc o).alloc (.cells #[x, y, z] t)).cell? ((⟨W.heap.size + 1, 0, none⟩ : Addr).add j) = some u := by
  have := cell_three_new (W.alloc o) x y z t
  rwa [World.size_alloc] at this

set_option maxRecDepth 100000 in
set_option maxHeartbeats 4000000 in
theorem moved_in (n : Nat) (hn : 3 ≤ n) (nm : Txt) (a av : Option Addr) (cap cv : Nat) (fs : List Fd) (vs : List Vl) (c : Ch) (h5 : fs.length ≤ 5) (hl : vs.length = fs.length) (w : World) (hF : Flds w.heap.size w a fs) (hV : Vals w.heap.size w av vs) :
    CallsIn Fence.wide n Tryz.prog 72 #[.agg #[.string nm.1, .slice a fs.length cap], c.v, .slice av vs.length cv] w fun e W' => ∃ v, e = .returned v ∧ W'.ownsRow w.heap.size 40 3 v (vNew nm c fs vs).length (newsV (vNew nm c fs vs)) ∧ Below w.heap.size w W' := by
  have h1 : 1 ≤ n := by omega
  have hro : Fence.wide.round = none := rfl
  obtain ⟨i0, hi, hz0, hz1, hz2⟩ := info_parts infoVl
  replace hl := hide hl
  have hv5 : vs.length ≤ 5 := by rw [unhide hl]; exact h5
  refine callsIn_of_wp_marks Tryz.func72 rfl trivial ?_ rfl
  simp only [Tryz.ntmps72, List.size_toArray, List.length_cons, List.length_nil, Nat.reduceAdd, Nat.reduceSub, Array.replicate_succ, Array.replicate_zero, List.push_toArray, List.append_toArray, List.nil_append, List.cons_append]
  gi_wp2_with fail
  refine ⟨trivial, ?_⟩
  refine (fieldsW_in (n - 1) _ _ _ _ c _).mono ?_
  rintro e w1 ⟨rfl, rfl⟩
  gi_wp2_with fail
  obtain ⟨W0, hW0⟩ : ∃ W0, W0 = ((((((w.alloc (.cells #[.string nm.1, .slice a fs.length cap] 69)).alloc (.cells c.cs 42)).alloc (.cells #[.slice av vs.length cv] 26)).alloc (.cells #[.slice none 0 0] 26)).alloc (.cells #[.string nm.1, .slice a fs.length cap] 69)).alloc (.cells c.cs 42)) := ⟨_, rfl⟩
  have e0 : W0.heap.size = w.heap.size + 6 := by rw [hW0]; simp
  have bW : Below w.heap.size w W0 := by rw [hW0]; exact ((((((Below.refl _ _).alloc (Nat.le_refl _) _).alloc (by simp) _).alloc (by simp; omega) _).alloc (by simp; omega) _).alloc (by simp; omega) _).alloc (by simp; omega) _
  have x4 : Box W0 (w.heap.size + 1) 42 c.cs := by
    have := Box.new (w.alloc (.cells #[.string nm.1, .slice a fs.length cap] 69)) 42 c.cs
    simp only [World.size_alloc] at this
    rw [hW0]; exact (((this.alloc _).alloc _).alloc _).alloc _
  have x3 : Box W0 (w.heap.size + 1 + 1) 26 #[.slice av vs.length cv] := by
    have := Box.new ((w.alloc (.cells #[.string nm.1, .slice a fs.length cap] 69)).alloc (.cells c.cs 42)) 26 #[.slice av vs.length cv]
    simp only [World.size_alloc] at this
    rw [hW0]; exact ((this.alloc _).alloc _).alloc _
  have x5 : Box W0 (w.heap.size + 1 + 1 + 1) 26 #[.slice none 0 0] := by
    have := Box.new (((w.alloc (.cells #[.string nm.1, .slice a fs.length cap] 69)).alloc (.cells c.cs 42)).alloc (.cells #[.slice av vs.length cv] 26)) 26 #[.slice none 0 0]
    simp only [World.size_alloc] at this
    rw [hW0]; exact (this.alloc _).alloc _
  have x6 : Box W0 (w.heap.size + 1 + 1 + 1 + 1) 69 #[.string nm.1, .slice a fs.length cap] := by
    have := Box.new ((((w.alloc (.cells #[.string nm.1, .slice a fs.length cap] 69)).alloc (.cells c.cs 42)).alloc (.cells #[.slice av vs.length cv] 26)).alloc (.cells #[.slice none 0 0] 26)) 69 #[.string nm.1, .slice a fs.length cap]
    simp only [World.size_alloc] at this
    rw [hW0]; exact this.alloc _
  have x7 : Box W0 (w.heap.size + 1 + 1 + 1 + 1 + 1) 42 c.cs := by
    have := Box.new (((((w.alloc (.cells #[.string nm.1, .slice a fs.length cap] 69)).alloc (.cells c.cs 42)).alloc (.cells #[.slice av vs.length cv] 26)).alloc (.cells #[.slice none 0 0] 26)).alloc (.cells #[.string nm.1, .slice a fs.length cap] 69)) 42 c.cs
    simp only [World.size_alloc] at this
    rw [hW0]; exact this
  have F0 := hF.below bW
  have V0 := hV.below bW
  rw [← hW0]
  clear hW0
  refine wpIn_rangeFunc_all hro h1 (gf := 110) (lb := #[.pointer (some ⟨w.heap.size + 1 + 1 + 1 + 1, 0, none⟩), .pointer (some ⟨w.heap.size + 1 + 1 + 1 + 1 + 1, 0, none⟩)]) rfl trivial (enters_of Tryz.func110 (by kernel_rfl) rfl)
    (fields_all_at (n - 1) (by omega) _ _ w.heap.size cap a nm fs c h5 W0 (by omega) x6 x7 F0) Keep.trans
    (fun W l o o' hl h hc hw => Keep.put W (fun k hk => by omega) o') (Below.refl _ _) (fun _ => rfl)
    (fun pre W => (∃ v, Box W (w.heap.size + 1 + 1 + 1) 26 #[v] ∧ W.ownsRow (w.heap.size + 6) 40 3 v pre.length (newsV (pre.map fun x => mV c vs x.1))) ∧ (Below w.heap.size w W ∧ Keep (fun k => k < w.heap.size + 6 ∧ k ≠ w.heap.size + 1 + 1 + 1) W0 W))
    (OwnFrom.and (Own.from (fun s A B row hs hg hr => by
      obtain ⟨v, h1, h2⟩ := hs
      exact ⟨v, box_own _ _ (fun _ => _) s A B row h1 hg hr, own_row _ _ _ v (fun _ => _) (fun _ => _) s A B row h2 hg hr⟩) _)
      (OwnFrom.and (ownFrom_below (Nat.le_refl _) bW.size) (ownFrom_keep (fun k hk => by omega))))
    (fun s A B row hs hg hr => hs)
    ⟨⟨_, x5, World.ownsRow_nil _ _ _ _⟩, bW, Keep.refl _ _⟩
    (fun x a1 W => ∃ Bf, Box W Bf 66 #[.string x.1.2.1.1, .int .i64 x.1.2.2] ∧ a1 = { tmps := #[.agg #[.string nm.1, .slice a fs.length cap], c.v, .slice av vs.length cv, .pointer (some ⟨w.heap.size, 0, none⟩), .pointer (some ⟨w.heap.size + 1, 0, none⟩), .pointer (some ⟨w.heap.size + 1 + 1, 0, none⟩), .slice none 0 0, .pointer (some ⟨w.heap.size + 1 + 1 + 1, 0, none⟩), .int .i64 x.1.1, .pointer (some ⟨Bf, 0, none⟩), undef, .agg #[.string nm.1, .slice a fs.length cap], c.v, .func (.func 110) #[] #[.pointer (some ⟨w.heap.size + 1 + 1 + 1 + 1, 0, none⟩), .pointer (some ⟨w.heap.size + 1 + 1 + 1 + 1 + 1, 0, none⟩)], .int .i64 x.1.1, .agg #[.string x.1.2.1.1, .int .i64 x.1.2.2], undef, undef, undef, undef, undef, undef, undef, undef, undef, undef, undef, undef, undef, undef, undef, undef], defers := [] })
    (fun x a1 s A B row hs hg hr => by
      obtain ⟨Bf, hf, e⟩ := hs
      exact ⟨Bf, box_own _ _ (fun _ => _) s A B row hf hg (fun r e => (hr r e).2), e⟩) ?assign ?body ?done
  case assign =>
    rintro l pre x W K ⟨⟨v, hb, hr⟩, hB, hk⟩ hK
    gi_wp2
    refine hK _ _ ?_ ?_ ?_ ?_
    · exact (keeps_below ((Below.refl _ W).alloc (Nat.le_refl _) _)).from _
    · exact (Keep.refl _ _).alloc _
    · exact ⟨⟨v, hb.alloc _, hr.alloc _⟩, hB.alloc hB.size _, hk.alloc _⟩
    · exact ⟨W.heap.size, Box.new W 66 _, rfl⟩
  case body =>
    rintro l pre ⟨⟨pl, fl⟩, hx⟩ a1 W hl' hr ⟨⟨v, hb, hrow⟩, hB, hk⟩ ⟨Bf, hf, rfl⟩ hlt
    simp only at hf ⊢
    have y4 := hk.box x4 (by omega)
    have y3 := hk.box x3 (by omega)
    obtain ⟨-, -, -, -, hc4, hc5, hc6⟩ := y4.seven
    have hv3 := y3.one.1
    obtain ⟨hf0, hf1⟩ := hf.two
    have hc0 := hb.one.1
    have hsz := hk.size
    have hBf := hf.lt
    have hBb := hb.lt
    have hxs : (pl = -1 ∧ mV c vs (pl, fl) = (fl.2, c.dn, c.ds)) ∨ ∃ k : Nat, k < vs.length ∧ pl = k ∧ mV c vs (pl, fl) = (fl.2, (vl vs k).2) := by
      rcases hx with h | ⟨k, hk1, h⟩
      · simp only at h; subst h; exact .inl ⟨rfl, by simp [mV]⟩
      · simp only at h; subst h; exact .inr ⟨k, by rw [unhide hl]; exact hk1, rfl, by simp [mV]⟩
    rcases hxs with ⟨rfl, hm⟩ | ⟨k, hkl, rfl, hm⟩
    · replace hm := hide hm
      gi_wp2_with (gi_at_builtin; refine wpListIn_append_own_at _ rfl _ _ 26 rfl (w.heap.size + 6) 40 i0 (.agg #[.int .i64 0, .int .i64 0, .string ⟨#[]⟩]) 3 32 Tryz.underlying26 hi hz0 hz1 hz2 rfl (by decide) _ _ _ rfl ((hrow.alloc _).alloc _) ⟨W.heap.size + 1, 0, none⟩ 1 1 [.int .i64 fl.2, .int .i64 c.dn, .string c.ds.1] rfl rfl (cell_three_new' _ _ _ _ _ _) (by simp [Value.oneCell']) (by unfold maxLen; omega) (by omega) (by simp; omega) ?_; intro v' w2 hown' hgrow _ _; obtain ⟨g', cap', rfl⟩ := ownsRow_succ hown'; obtain ⟨hv1, hv2, hr2, hk2, hkk, hbb⟩ := appended 0 (hb.alloc _) (by omega) (hrow.alloc _) (by simp; omega) hown' hgrow; have hd0 := hv1.one.1; have hfz := hv1.frz 0)
      have bA : Below W.heap.size W (W.alloc (.cells #[.int .i64 fl.2, .int .i64 c.dn, .string c.ds.1] 40)) := (Below.refl _ _).alloc (Nat.le_refl _) _
      have hkk2 := (Keep.below bA).trans hkk
      refine ⟨((keeps_below bA).trans hk2).from _, hkk2.mono (fun k hk => by omega), ⟨_, hv2, ?_⟩, hB.trans ((bA.mono hB.size).trans (hbb _ (by omega))), hk.trans hkk2⟩
      have e1 : ∀ y : Pk fs.length, (pre ++ [y]).length = pre.length + 1 := fun y => by simp
      have e2 : ∀ y : Pk fs.length, newsV ((pre ++ [y]).map fun x => mV c vs x.1) = newsV (pre.map fun x => mV c vs x.1) ++ newsV [mV c vs y.1] := fun y => by simp [newsV]
      rw [e1, e2]
      simp only [unhide hm]
      exact hr2
    · replace hm := hide hm
      have V1 : Vals w.heap.size W av vs := hV.below hB
      rcases V1 with rfl | ⟨b, off, rfl, hbl, hcs⟩
      · simp at hkl
      obtain ⟨g0, g1, g2⟩ := hcs k hkl
      clear hcs
      have hbW : b < W.heap.size := by have := hB.size; omega
      have hy3 := y3.lt
      have hne : ((k : Int) != -1) = true := by simp
      gi_wp2_with (gi_at_builtin; refine wpListIn_append_own_at _ rfl _ _ 26 rfl (w.heap.size + 6) 40 i0 (.agg #[.int .i64 0, .int .i64 0, .string ⟨#[]⟩]) 3 32 Tryz.underlying26 hi hz0 hz1 hz2 rfl (by decide) _ _ _ rfl ((hrow.alloc _).alloc _) ⟨W.heap.size + 1, 0, none⟩ 1 1 [.int .i64 fl.2, .int .i64 (vl vs k).2.1, .string (vl vs k).2.2.1] rfl rfl (cell_three_new' _ _ _ _ _ _) (by simp [Value.oneCell']) (by unfold maxLen; omega) (by omega) (by simp; omega) ?_; intro v' w2 hown' hgrow _ _; obtain ⟨g', cap', rfl⟩ := ownsRow_succ hown'; obtain ⟨hv1, hv2, hr2, hk2, hkk, hbb⟩ := appended 0 (hb.alloc _) (by omega) (hrow.alloc _) (by simp; omega) hown' hgrow; have hd0 := hv1.one.1; have hfz := hv1.frz 0)
      have bA : Below W.heap.size W (W.alloc (.cells #[.int .i64 fl.2, .int .i64 (vl vs k).2.1, .string (vl vs k).2.2.1] 40)) := (Below.refl _ _).alloc (Nat.le_refl _) _
      have hkk2 := (Keep.below bA).trans hkk
      refine ⟨((keeps_below bA).trans hk2).from _, hkk2.mono (fun k hk => by omega), ⟨_, hv2, ?_⟩, hB.trans ((bA.mono hB.size).trans (hbb _ (by omega))), hk.trans hkk2⟩
      have e1 : ∀ y : Pk fs.length, (pre ++ [y]).length = pre.length + 1 := fun y => by simp
      have e2 : ∀ y : Pk fs.length, newsV ((pre ++ [y]).map fun x => mV c vs x.1) = newsV (pre.map fun x => mV c vs x.1) ++ newsV [mV c vs y.1] := fun y => by simp [newsV]
      rw [e1, e2]
      simp only [unhide hm]
      exact hr2
  case done =>
    rintro D ys W hD hys ⟨⟨v, hb, hrow⟩, hB, hk⟩ hK
    replace hrow : W.ownsRow (w.heap.size + 6) 40 3 v (vNew nm c fs vs).length (newsV (vNew nm c fs vs)) := by
      have e1 : ys.map (fun x => mV c vs x.1) = vNew nm c fs vs := by rw [vNew, ← hys, List.map_map]; rfl
      have e2 : (vNew nm c fs vs).length = ys.length := by rw [← e1]; simp
      rw [e2, ← e1]; exact hrow
    obtain ⟨a', c', rfl, -, -⟩ := vals_of_owns hrow
    replace hrow := hide hrow
    have hc0 := hb.one.1
    gi_wp2
    refine ⟨by simp, .inl ⟨_, _, rfl, run_takeDeferred hK, ?_⟩⟩
    exact ⟨_, results_tmp rfl _ _ _, _, rfl, owns_base (by omega) (ownsRow_putObj (unhide hrow) _ hK rfl), hB.trans (belowK_b (w := w) (Nat.le_refl _) W D _ _ (by omega) hK rfl rfl)⟩

theorem moved_c (nm : Txt) (a av : Option Addr) (cap cv : Nat) (fs : List Fd) (vs : List Vl) (c : Ch) (h5 : fs.length ≤ 5) (hl : vs.length = fs.length) (w : World) (hF : Flds w.heap.size w a fs) (hV : Vals w.heap.size w av vs) :
    Calls Tryz.prog 72 #[.agg #[.string nm.1, .slice a fs.length cap], c.v, .slice av vs.length cv] w fun e W' => ∃ v, e = .returned v ∧ W'.ownsRow w.heap.size 40 3 v (vNew nm c fs vs).length (newsV (vNew nm c fs vs)) ∧ Below w.heap.size w W' :=
  callsIn_wide.1 (moved_in 3 (Nat.le_refl _) nm a av cap cv fs vs c h5 hl w hF hV)

end Go.Proofs.YtcjpaldijngnpaaGreatDoor
