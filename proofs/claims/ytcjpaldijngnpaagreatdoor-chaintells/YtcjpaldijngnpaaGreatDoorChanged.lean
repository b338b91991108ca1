/-
  A type behind a change (package evolve: changed): its name, and a new row of the fields that the walk gives; for every type of at most 5 fields and every change, in whatever world; nothing that lay is turned.
-/
import Derived.Test.YtcjpaldijngnpaaGreatDoorRow
namespace Go.Proofs.YtcjpaldijngnpaaGreatDoor
open Go.RowKit Go.Shelf

attribute [local go_sem] Oper.semAt_some

/-- The fields behind a change. -/
def fNew (nm : Txt) (c : Ch) (fs : List Fd) : List Fd := (fAll (nm.1.toList == c.t.1.toList) c fs).map (·.2)

set_option maxRecDepth 100000 in
set_option maxHeartbeats 4000000 in
theorem changed_in (n : Nat) (hn : 3 ≤ n) (nm : Txt) (a : Option Addr) (cap : Nat) (fs : List Fd) (c : Ch) (h5 : fs.length ≤ 5) (w : World) (hF : Flds w.heap.size w a fs) :
    CallsIn Fence.wide n Tryz.prog 94 #[.agg #[.string nm.1, .slice a fs.length cap], c.v] w fun e W' => ∃ v, e = .returned (.agg #[.string nm.1, v]) ∧ W'.ownsRow w.heap.size 66 2 v (fNew nm c fs).length (newsF (fNew nm c fs)) ∧ Below w.heap.size w W' := by
  have h1 : 1 ≤ n := by omega
  have hro : Fence.wide.round = none := rfl
  obtain ⟨i0, hi, hz0, hz1, hz2⟩ := info_parts infoFd
  refine callsIn_of_wp_marks Tryz.func94 rfl trivial ?_ rfl
  simp only [Tryz.ntmps94, List.size_toArray, List.length_cons, List.length_nil, Nat.reduceAdd, Nat.reduceSub, Array.replicate_succ, Array.replicate_zero, List.push_toArray, List.append_toArray, List.nil_append, List.cons_append]
  gi_wp2_with fail
  refine ⟨trivial, ?_⟩
  refine (fieldsW_in (n - 1) _ _ _ _ c _).mono ?_
  rintro e w1 ⟨rfl, rfl⟩
  gi_wp2_with fail
  obtain ⟨W0, hW0⟩ : ∃ W0, W0 = ((((((w.alloc (.cells #[.string nm.1, .slice a fs.length cap] 69)).alloc (.cells c.cs 42)).alloc (.cells #[.string ⟨#[]⟩, .slice none 0 0] 69)).alloc (.cells #[.string nm.1, .slice none 0 0] 69)).alloc (.cells #[.string nm.1, .slice a fs.length cap] 69)).alloc (.cells c.cs 42)) := ⟨_, rfl⟩
  have e0 : W0.heap.size = w.heap.size + 6 := by rw [hW0]; simp
  have bW : Below w.heap.size w W0 := by rw [hW0]; exact ((((((Below.refl _ _).alloc (Nat.le_refl _) _).alloc (by simp) _).alloc (by simp; omega) _).alloc (by simp; omega) _).alloc (by simp; omega) _).alloc (by simp; omega) _
  have x4 : Box W0 (w.heap.size + 1 + 1) 69 #[.string ⟨#[]⟩, .slice none 0 0] := by
    have := Box.new ((w.alloc (.cells #[.string nm.1, .slice a fs.length cap] 69)).alloc (.cells c.cs 42)) 69 #[.string ⟨#[]⟩, .slice none 0 0]
    simp only [World.size_alloc] at this
    rw [hW0]; exact ((this.alloc _).alloc _).alloc _
  have x5 : Box W0 (w.heap.size + 1 + 1 + 1) 69 #[.string nm.1, .slice none 0 0] := by
    have := Box.new (((w.alloc (.cells #[.string nm.1, .slice a fs.length cap] 69)).alloc (.cells c.cs 42)).alloc (.cells #[.string ⟨#[]⟩, .slice none 0 0] 69)) 69 #[.string nm.1, .slice none 0 0]
    simp only [World.size_alloc] at this
    rw [hW0]; exact (this.alloc _).alloc _
  have x6 : Box W0 (w.heap.size + 1 + 1 + 1 + 1) 69 #[.string nm.1, .slice a fs.length cap] := by
    have := Box.new ((((w.alloc (.cells #[.string nm.1, .slice a fs.length cap] 69)).alloc (.cells c.cs 42)).alloc (.cells #[.string ⟨#[]⟩, .slice none 0 0] 69)).alloc (.cells #[.string nm.1, .slice none 0 0] 69)) 69 #[.string nm.1, .slice a fs.length cap]
    simp only [World.size_alloc] at this
    rw [hW0]; exact this.alloc _
  have x7 : Box W0 (w.heap.size + 1 + 1 + 1 + 1 + 1) 42 c.cs := by
    have := Box.new (((((w.alloc (.cells #[.string nm.1, .slice a fs.length cap] 69)).alloc (.cells c.cs 42)).alloc (.cells #[.string ⟨#[]⟩, .slice none 0 0] 69)).alloc (.cells #[.string nm.1, .slice none 0 0] 69)).alloc (.cells #[.string nm.1, .slice a fs.length cap] 69)) 42 c.cs
    simp only [World.size_alloc] at this
    rw [hW0]; exact this
  have F0 := hF.below bW
  rw [← hW0]
  clear hW0
  have hl6 : (fAll (nm.1.toList == c.t.1.toList) c fs).length ≤ 6 := by
    have := fTo_len (nm.1.toList == c.t.1.toList) c fs fs.length
    unfold fAll
    split <;> simp <;> omega
  refine wpIn_rangeFunc_all hro h1 (gf := 110) (lb := #[.pointer (some ⟨w.heap.size + 1 + 1 + 1 + 1, 0, none⟩), .pointer (some ⟨w.heap.size + 1 + 1 + 1 + 1 + 1, 0, none⟩)]) rfl trivial (enters_of Tryz.func110 (by kernel_rfl) rfl)
    (fields_all (n - 1) (by omega) _ _ w.heap.size cap a nm fs c h5 W0 (by omega) x6 x7 F0) Keep.trans
    (fun W l o o' hl h hc hw => Keep.put W (fun k hk => by omega) o') (Below.refl _ _) (fun _ => rfl)
    (fun pre W => (∃ v, Box W (w.heap.size + 1 + 1 + 1) 69 #[.string nm.1, v] ∧ W.ownsRow (w.heap.size + 6) 66 2 v pre.length (newsF (pre.map (·.2)))) ∧ (Below w.heap.size w W ∧ Keep (fun k => k < w.heap.size + 6 ∧ k ≠ w.heap.size + 1 + 1 + 1) W0 W))
    (OwnFrom.and (Own.from (fun s A B row hs hg hr => by
      obtain ⟨v, h1, h2⟩ := hs
      exact ⟨v, box_own _ _ (fun _ => _) s A B row h1 hg hr, own_row _ _ _ v (fun _ => _) (fun _ => _) s A B row h2 hg hr⟩) _)
      (OwnFrom.and (ownFrom_below (Nat.le_refl _) bW.size) (ownFrom_keep (fun k hk => by omega))))
    (fun s A B row hs hg hr => hs)
    ⟨⟨_, x5, World.ownsRow_nil _ _ _ _⟩, bW, Keep.refl _ _⟩
    (fun x a1 W => ∃ Bf, Box W Bf 66 #[.string x.2.1.1, .int .i64 x.2.2] ∧ a1 = { tmps := #[.agg #[.string nm.1, .slice a fs.length cap], c.v, .pointer (some ⟨w.heap.size, 0, none⟩), .pointer (some ⟨w.heap.size + 1, 0, none⟩), .pointer (some ⟨w.heap.size + 1 + 1, 0, none⟩), .pointer (some ⟨w.heap.size + 1 + 1 + 1, 0, none⟩), undef, .pointer (some ⟨Bf, 0, none⟩), .pointer (some ⟨w.heap.size, 0, none⟩), .string nm.1, .agg #[.string nm.1, .slice none 0 0], .agg #[.string nm.1, .slice a fs.length cap], c.v, .func (.func 110) #[] #[.pointer (some ⟨w.heap.size + 1 + 1 + 1 + 1, 0, none⟩), .pointer (some ⟨w.heap.size + 1 + 1 + 1 + 1 + 1, 0, none⟩)], .int .i64 x.1, .agg #[.string x.2.1.1, .int .i64 x.2.2], undef, undef, undef, undef, undef, undef, undef], defers := [] })
    (fun x a1 s A B row hs hg hr => by
      obtain ⟨Bf, hf, e⟩ := hs
      exact ⟨Bf, box_own _ _ (fun _ => _) s A B row hf hg (fun r e => (hr r e).2), e⟩) ?assign ?body ?done
  case assign =>
    rintro l pre x W K ⟨⟨v, hb, hr⟩, hB, hk⟩ hK
    gi_wp2
    refine hK _ _ ?_ ?_ ?_ ?_
    · exact (keeps_below ((Below.refl _ W).alloc (Nat.le_refl _) _)).from _
    · exact (Keep.refl _ _).alloc _
    · exact ⟨⟨v, hb.alloc _, hr.alloc _⟩, hB.alloc hB.size _, hk.alloc _⟩
    · exact ⟨W.heap.size, Box.new W 66 _, rfl⟩
  case body =>
    rintro l pre x a1 W hl hr ⟨⟨v, hb, hrow⟩, hB, hk⟩ ⟨Bf, hf, rfl⟩ hlt
    obtain ⟨hf0, hf1⟩ := hf.two
    obtain ⟨hc0, hc1⟩ := hb.two
    have hsz := hk.size
    gi_wp2_with (gi_at_builtin; refine wpListIn_append_own_at _ rfl _ _ 67 rfl (w.heap.size + 6) 66 i0 (.agg #[.string ⟨#[]⟩, .int .i64 0]) 2 24 Tryz.underlying67 hi hz0 hz1 hz2 rfl (by decide) _ _ _ rfl (hrow.alloc _) ⟨W.heap.size, 0, none⟩ 1 1 [.string x.2.1.1, .int .i64 x.2.2] rfl rfl (cell_two_new _ _ _ _) (by simp [Value.oneCell']) (by unfold maxLen; omega) (by omega) (by simp; omega) ?_; intro v' w2 hown' hgrow _ _; obtain ⟨g', cap', rfl⟩ := ownsRow_succ hown'; obtain ⟨hv1, hv2, hr2, hk2, hkk, hbb⟩ := appended 1 hb (by omega) hrow (by omega) hown' hgrow; obtain ⟨hd0, hd1⟩ := hv1.two; have hfz := hv1.frz 1)
    refine ⟨hk2.from _, hkk.mono (fun k hk => by omega), ⟨_, hv2, ?_⟩, hB.trans (hbb _ (by omega)), hk.trans hkk⟩
    have e1 : (pre ++ [x]).length = pre.length + 1 := by simp
    have e2 : newsF ((pre ++ [x]).map (·.2)) = newsF (pre.map (·.2)) ++ [.string x.2.1.1, .int .i64 x.2.2] := by simp [newsF]
    rw [e1, e2]
    exact hr2
  case done =>
    rintro D ys W hD rfl ⟨⟨v, hb, hrow⟩, hB, hk⟩ hK
    replace hrow : W.ownsRow (w.heap.size + 6) 66 2 v (fNew nm c fs).length (newsF (fNew nm c fs)) := by
      have e1 : (fNew nm c fs).length = (fAll (nm.1.toList == c.t.1.toList) c fs).length := by simp [fNew]
      rw [e1]; exact hrow
    obtain ⟨a', c', rfl, -, -⟩ := flds_of_owns hrow
    replace hrow := hide hrow
    obtain ⟨hc0, hc1⟩ := hb.two
    have y4 := hk.box x4 (by omega)
    obtain ⟨hd0, hd1⟩ := y4.two
    have hz0 := y4.frz 0
    have hz1 := y4.frz 1
    gi_wp2
    have y5 := (y4.set 0 (.string nm.1)).set 1 (.slice a' (fNew nm c fs).length c')
    have hko := (KeepsOthers.setCell W ⟨w.heap.size + 1 + 1, 0, none⟩ (.string nm.1)).trans (KeepsOthers.setCell _ ⟨w.heap.size + 1 + 1, 1, none⟩ (.slice a' (fNew nm c fs).length c'))
    have hK' := hko.same D _ hK rfl
    refine ⟨by simp, .inl ⟨_, _, rfl, run_takeDeferred hK', ?_⟩⟩
    obtain ⟨he0, he1⟩ := (y5.put hK' rfl (.deferred none)).two
    refine ⟨.agg #[.string nm.1, .slice a' (fNew nm c fs).length c'], ?_, _, rfl, ?_, ?_⟩
    · simp [results, Tryz.f94, go_sem, he0, he1]
    · have r2 := owns_set (owns_set (unhide hrow) ⟨w.heap.size + 1 + 1, 0, none⟩ (.string nm.1) (by simp only; omega)) ⟨w.heap.size + 1 + 1, 1, none⟩ (.slice a' (fNew nm c fs).length c') (by simp only; omega)
      exact owns_base (by omega) (ownsRow_putObj r2 _ hK' rfl)
    · exact ((hB.setCell (p := ⟨w.heap.size + 1 + 1, 0, none⟩) (by simp only; omega) _).setCell (p := ⟨w.heap.size + 1 + 1, 1, none⟩) (by simp only; omega) _).trans (belowK_b (w := w) (Nat.le_refl _) _ D _ _ (by omega) hK' rfl rfl)

theorem changed_c (nm : Txt) (a : Option Addr) (cap : Nat) (fs : List Fd) (c : Ch) (h5 : fs.length ≤ 5) (w : World) (hF : Flds w.heap.size w a fs) :
    Calls Tryz.prog 94 #[.agg #[.string nm.1, .slice a fs.length cap], c.v] w fun e W' => ∃ v, e = .returned (.agg #[.string nm.1, v]) ∧ W'.ownsRow w.heap.size 66 2 v (fNew nm c fs).length (newsF (fNew nm c fs)) ∧ Below w.heap.size w W' :=
  callsIn_wide.1 (changed_in 3 (Nat.le_refl _) nm a cap fs c h5 w hF)

end Go.Proofs.YtcjpaldijngnpaaGreatDoor
