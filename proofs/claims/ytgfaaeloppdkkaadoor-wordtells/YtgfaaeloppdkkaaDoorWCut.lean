/-
  What Cut answers: for every text, in whatever world in which the package variables stand: the words, in memory of its own, or what is wrong; nothing that lay is turned.
-/
import Derived.Test.YtgfaaeloppdkkaaDoorWRow
namespace Go.Proofs.YtgfaaeloppdkkaaDoor
open Go.RowKit Go.Shelf

attribute [local go_sem] Oper.semAt_some

theorem infoWord : (Tryd.prog.info? 32).map (fun i => (i.zero, i.size, i.bytes)) = some (some (.agg #[.int .i64 0, .string ⟨#[]⟩, .int .i64 0, .int .i64 0]), 4, 40) := by kernel_rfl

/-- The cells of a word. -/
def encC : Wd → List Value
  | .word k t n at_ => [.int .i64 k, .string ⟨t.toArray⟩, .int .i64 n, .int .i64 at_]
  | .bad _ => []
def cellsW (ts : List Wd) : List Value := ts.flatMap encC
theorem cellsW_append (a b : List Wd) : cellsW (a ++ b) = cellsW a ++ cellsW b := by simp [cellsW]

/-- What is wrong, as an error. -/
def errO (e : Int) : Value := if e = 0 then .nilIface else .iface 40 (.int .i64 e)
theorem errO_zero : errO 0 = .nilIface := rfl
theorem errO_ne {e : Int} (h : e ≠ 0) : errO e = .iface 40 (.int .i64 e) := if_neg h

theorem bad_mem_toks : ∀ (f at_ : Nat) (l : List UInt8) (e : Int), Wd.bad e ∈ toksL f at_ l → e = 12 ∨ e = 21
  | 0, _, _, _, h => by simp [toksL] at h
  | f + 1, at_, l, e, h => by
    cases l with
    | nil => simp [toksL] at h
    | cons c r =>
      simp only [toksL] at h
      split at h
      · exact bad_mem_toks f _ _ e h
      · split at h
        · rename_i e' hw
          rw [List.mem_singleton] at h
          cases h
          exact firstW_bad hw
        · rw [List.mem_cons] at h
          rcases h with h | h
          · cases h
          · exact bad_mem_toks f _ _ e h
theorem bad_mem {l : List UInt8} {e : Int} (h : Wd.bad e ∈ cutL l) : e = 12 ∨ e = 21 := bad_mem_toks _ _ _ _ h

set_option maxRecDepth 100000 in
set_option maxHeartbeats 4000000 in
theorem cut10_in (n : Nat) (hn : 3 ≤ n) (s : ByteArray) (w : World) (hV : Vars w) (hs : s.size ≤ 281474976710656) :
    CallsIn Fence.wide n Tryd.prog 10 #[.string s] w fun e W' => ∃ v, e = .returned (.tuple #[v, errO (errL 0 (cutL s.data.toList))]) ∧ W'.ownsRow w.heap.size 32 4 v (wordsL s.data.toList).length (cellsW (wordsL s.data.toList)) ∧ Below w.heap.size w W' := by
  have h1 : 1 ≤ n := by omega
  have hro : Fence.wide.round = none := rfl
  have hz := hV.size
  obtain ⟨i0, hi, hz0, hz1, hz2⟩ := info_parts infoWord
  refine callsIn_of_wp_marks Tryd.func10 rfl trivial ?_ rfl
  simp only [Tryd.ntmps10, List.size_toArray, List.length_cons, List.length_nil, Nat.reduceAdd, Nat.reduceSub, Array.replicate_succ, Array.replicate_zero, List.push_toArray, List.append_toArray, List.nil_append, List.cons_append]
  gi_wp2_with (refine ⟨trivial, ?_⟩; gi_at_call 16; refine (words16_in (n - 1) _ _).mono ?_; rintro e w' ⟨rfl, rfl⟩)
  have hW0 : ∃ W0, W0 = (((w.alloc (.cells #[.slice none 0 0] 23)).alloc (.cells #[.nilIface] 25)).alloc (.cells #[.slice none 0 0] 23)).alloc (.cells #[.string s] 9) := ⟨_, rfl⟩
  obtain ⟨W0, hW0⟩ := hW0
  have b0 : Box W0 w.heap.size 23 #[.slice none 0 0] := by rw [hW0]; exact (((Box.new w 23 _).alloc _).alloc _).alloc _
  have b1 : Box W0 (w.heap.size + 1) 25 #[.nilIface] := by
    rw [hW0]
    have := Box.new (w.alloc (.cells #[.slice none 0 0] 23)) 25 #[.nilIface]
    simp only [World.size_alloc] at this
    exact (this.alloc _).alloc _
  have b2 : Box W0 (w.heap.size + 1 + 1) 23 #[.slice none 0 0] := by
    rw [hW0]
    have := Box.new ((w.alloc (.cells #[.slice none 0 0] 23)).alloc (.cells #[.nilIface] 25)) 23 #[.slice none 0 0]
    simp only [World.size_alloc] at this
    exact this.alloc _
  have b3 : Box W0 (w.heap.size + 1 + 1 + 1) 9 #[.string s] := by
    rw [hW0]
    have := Box.new (((w.alloc (.cells #[.slice none 0 0] 23)).alloc (.cells #[.nilIface] 25)).alloc (.cells #[.slice none 0 0] 23)) 9 #[.string s]
    simp only [World.size_alloc] at this
    exact this
  have hB0 : Below w.heap.size w W0 := by rw [hW0]; exact ((((Below.refl _ _).alloc (Nat.le_refl _) _).alloc (by simp) _).alloc (by simp; omega) _).alloc (by simp; omega) _
  have sz0 : W0.heap.size = w.heap.size + 4 := by rw [hW0]; simp
  rw [← hW0]
  clear hW0
  refine wpIn_rangeFunc_ownH hro h1 (gf := 22) (lb := #[.pointer (some ⟨w.heap.size + 1 + 1 + 1, 0, none⟩)]) rfl trivial (enters_of Tryd.func22 (by kernel_rfl) rfl)
    (words_stops (n - 1) (by omega) (w.heap.size + 1 + 1 + 1) w.heap.size s hs W0 (hV.on hB0 hz) hz hB0.size b3.lt b3.one.1) KeepX.trans
    (fun W l o o' hl h hc hw => ⟨belowK_b (w := w) (Nat.le_refl _) W l o o' (by omega) h hc hw, (grownBy_putObj' W l o').block _ (by have := (Array.getElem?_eq_some_iff.1 h).1; omega) (by intro e; cases e; omega)⟩)
    (Below.refl _ _) (fun x => by cases x <;> rfl)
    (fun pre W => (Hid (∀ x ∈ pre, isWord x = true) ∧ pre.length ≤ 500 ∧ (∃ v, Box W (w.heap.size + 1 + 1) 23 #[v] ∧ W.ownsRow (w.heap.size + 4) 32 4 v pre.length (cellsW pre)) ∧ Box W w.heap.size 23 #[.slice none 0 0] ∧ Box W (w.heap.size + 1) 25 #[.nilIface] ∧ w.heap.size + 4 ≤ W.heap.size) ∧ Below w.heap.size w W)
    (fun c pre W => (c = .ret ∧ ∃ E : Int, Hid ((∀ r, errL 0 (pre ++ r) = E) ∧ (E = 12 ∨ Wd.bad E ∈ pre)) ∧ Box W w.heap.size 23 #[.slice none 0 0] ∧ Box W (w.heap.size + 1) 25 #[.iface 40 (.int .i64 E)]) ∧ Below w.heap.size w W)
    (OwnFrom.and (Own.from (fun pre A B row hs hg hr => by
      obtain ⟨hp, hl, ⟨v, h1, h2⟩, h3, h4, h5⟩ := hs
      exact ⟨hp, hl, ⟨v, box_own _ _ (fun _ => _) pre A B row h1 hg hr, own_row _ _ _ v (fun _ => _) (fun _ => _) pre A B row h2 hg hr⟩, box_own _ _ (fun _ => _) pre A B row h3 hg hr, box_own _ _ (fun _ => _) pre A B row h4 hg hr, Nat.le_trans h5 hg.size⟩) _) (ownFrom_below (Nat.le_refl _) hB0.size))
    (fun c => OwnFrom.and (Own.from (fun pre A B row hs hg hr => by
      obtain ⟨hc, E, hE, h3, h4⟩ := hs
      exact ⟨hc, E, hE, box_own _ _ (fun _ => _) pre A B row h3 hg hr, box_own _ _ (fun _ => _) pre A B row h4 hg hr⟩) _) (ownFrom_below (Nat.le_refl _) hB0.size))
    ⟨⟨hide (fun _ h => by cases h), Nat.zero_le _, ⟨_, b2, World.ownsRow_nil _ _ _ _⟩, b0, b1, by omega⟩, hB0⟩
    (fun x a1 W => ∃ (Bf : Nat) (u : Value) (ev : Value), (w.heap.size + 4 ≤ Bf ∧ (∃ ce, u = .agg ce ∧ Box W Bf 32 ce) ∧ #[u, ev] = encY x) ∧ a1 = { tmps := #[.string s, undef, .pointer (some ⟨w.heap.size, 0, none⟩), .pointer (some ⟨w.heap.size + 1, 0, none⟩), .pointer (some ⟨w.heap.size + 1 + 1, 0, none⟩), .pointer (some ⟨Bf, 0, none⟩), ev, .string s, .func (.func 22) #[] #[.pointer (some ⟨w.heap.size + 1 + 1 + 1, 0, none⟩)], u, ev, undef, undef, undef, undef, undef, undef, undef, undef, undef, undef, undef, undef], defers := [] })
    (fun x a1 q A B row hs hg hr => by
      obtain ⟨Bf, u, ev, ⟨h1, ⟨ce, h2, h3⟩, h4⟩, h5⟩ := hs
      exact ⟨Bf, u, ev, ⟨h1, ⟨ce, h2, box_own _ _ (fun _ => _) q A B row h3 hg (fun r e => (hr r e).2)⟩, h4⟩, h5⟩) ?assign ?body ?done ?stop
  case assign =>
    rintro l pre x W K ⟨⟨hp, hl, ⟨v, hb, hr⟩, hb0, hb1, hsz⟩, hB⟩ hK
    have hs := hB.size
    cases x with
    | word kk tt nn at_ =>
      simp only [encY]
      gi_wp2
      refine hK _ _ ?_ ?_ ?_ ?_
      · exact (keeps_below ((Below.refl _ W).alloc (Nat.le_refl _) _)).from _
      · exact KeepX.of_below ((Below.refl _ W).alloc (Nat.le_refl _) _) (by omega) (by omega)
      · exact ⟨⟨hp, hl, ⟨v, hb.alloc _, hr.alloc _⟩, hb0.alloc _, hb1.alloc _, by simp; omega⟩, hB.alloc hs _⟩
      · exact ⟨W.heap.size, _, _, ⟨hsz, ⟨_, rfl, Box.new W 32 _⟩, rfl⟩, rfl⟩
    | bad e =>
      simp only [encY]
      gi_wp2
      refine hK _ _ ?_ ?_ ?_ ?_
      · exact (keeps_below ((Below.refl _ W).alloc (Nat.le_refl _) _)).from _
      · exact KeepX.of_below ((Below.refl _ W).alloc (Nat.le_refl _) _) (by omega) (by omega)
      · exact ⟨⟨hp, hl, ⟨v, hb.alloc _, hr.alloc _⟩, hb0.alloc _, hb1.alloc _, by simp; omega⟩, hB.alloc hs _⟩
      · exact ⟨W.heap.size, _, _, ⟨hsz, ⟨_, rfl, Box.new W 32 _⟩, rfl⟩, rfl⟩
  case body =>
    rintro l pre x a1 W hl0 hr0 ⟨⟨hp, hl, ⟨v, hb, hrow⟩, hb0, hb1, hsz⟩, hB⟩ ⟨Bf, u, ev, ⟨hBf, ⟨ce, rfl, hbf⟩, hex⟩, rfl⟩ hlt
    obtain ⟨hc0, hf0⟩ := hb0.one
    obtain ⟨hc1, hf1⟩ := hb1.one
    obtain ⟨hc2, hf2⟩ := hb.one
    obtain ⟨av, cv, rfl⟩ := owns_form hrow
    cases x with
    | bad e =>
      obtain ⟨rfl, rfl⟩ : ce = #[.int .i64 0, .string ⟨#[]⟩, .int .i64 0, .int .i64 0] ∧ ev = .iface 40 (.int .i64 e) := by
        simp [encY] at hex; exact hex
      have H := hide (show (∀ r, errL 0 ((pre ++ [Wd.bad e]) ++ r) = e) ∧ (e = 12 ∨ Wd.bad e ∈ pre ++ [Wd.bad e]) from
        ⟨fun r => by rw [List.append_assoc, errL_append pre 0 _ (unhide hp) (by omega)]; rfl, .inr (by simp)⟩)
      gi_wp2
      exact ⟨((KeepsOthers.setCell _ _ _).trans (KeepsOthers.setCell _ _ _)).from _, ⟨rfl, e, H, (hb0.set 0 (.slice none 0 0)).other ⟨w.heap.size + 1, 0, none⟩ _ (by simp), (hb1.other ⟨w.heap.size, 0, none⟩ _ (by simp)).set 0 (.iface 40 (.int .i64 e))⟩, (hB.setCell (p := ⟨w.heap.size, 0, none⟩) (Nat.le_refl _) _).setCell (p := ⟨w.heap.size + 1, 0, none⟩) (by simp) _⟩
    | word kk tt nn at_ =>
      obtain ⟨rfl, rfl⟩ : ce = #[.int .i64 kk, .string ⟨tt.toArray⟩, .int .i64 nn, .int .i64 at_] ∧ ev = .nilIface := by
        simp [encY] at hex; exact hex
      by_cases h500 : pre.length = 500
      · have H := hide (show (∀ r, errL 0 ((pre ++ [Wd.word kk tt nn at_]) ++ r) = 12) ∧ ((12 : Int) = 12 ∨ Wd.bad 12 ∈ pre ++ [Wd.word kk tt nn at_]) from
          ⟨fun r => by rw [List.append_assoc, errL_append pre 0 _ (unhide hp) (by omega), h500]; rfl, .inl rfl⟩)
        have h500' : ((pre.length : Int) == 500) = true := by simp [h500]
        clear h500
        gi_wp2
        exact ⟨((KeepsOthers.setCell _ _ _).trans (KeepsOthers.setCell _ _ _)).from _, ⟨rfl, 12, hide ⟨(unhide H).1, .inl rfl⟩, (hb0.set 0 (.slice none 0 0)).other ⟨w.heap.size + 1, 0, none⟩ _ (by simp), (hb1.other ⟨w.heap.size, 0, none⟩ _ (by simp)).set 0 (.iface 40 (.int .i64 12))⟩, (hB.setCell (p := ⟨w.heap.size, 0, none⟩) (Nat.le_refl _) _).setCell (p := ⟨w.heap.size + 1, 0, none⟩) (by simp) _⟩
      · have h500' : ((pre.length : Int) == 500) = false := by simp; omega
        have hl1 : pre.length + 1 ≤ 500 := by omega
        have H := hide (show ∀ x ∈ pre ++ [Wd.word kk tt nn at_], isWord x = true from fun x hx => by
          rcases List.mem_append.1 hx with h | h
          · exact unhide hp x h
          · rw [List.mem_singleton.1 h]; rfl)
        obtain ⟨d0, d1, d2, d3, -⟩ := hbf.four
        have hsq := hb.lt
        clear h500 hp
        gi_wp2_with (gi_at_builtin; refine wpListIn_append_own_at _ rfl _ _ 23 rfl (w.heap.size + 4) 32 i0 (.agg #[.int .i64 0, .string ⟨#[]⟩, .int .i64 0, .int .i64 0]) 4 40 Tryd.underlying23 hi hz0 hz1 hz2 rfl (by decide) _ _ _ rfl (hrow.alloc _) ⟨W.heap.size, 0, none⟩ 1 1 [.int .i64 kk, .string ⟨tt.toArray⟩, .int .i64 nn, .int .i64 at_] rfl rfl (cell_four_new _ _ _ _ _ _) (by simp [Value.oneCell']) (by unfold maxLen; omega) (by omega) (by simp; omega) ?_; intro v' w2 hown' hgrow _ _; obtain ⟨g', cap', rfl⟩ := ownsRow_succ hown'; obtain ⟨hv1, hv2, hr2, hk2, hkk, hbb⟩ := appended 0 hb (by omega) hrow (by omega) hown' hgrow; obtain ⟨hd0, hfz⟩ := hv1.one)
        have e1 : (pre ++ [Wd.word kk tt nn at_]).length = pre.length + 1 := by simp
        have e2 : cellsW (pre ++ [Wd.word kk tt nn at_]) = cellsW pre ++ [.int .i64 kk, .string ⟨tt.toArray⟩, .int .i64 nn, .int .i64 at_] := by rw [cellsW_append]; rfl
        have old : ∀ k, k < w.heap.size + 2 → (w2.setCell ⟨w.heap.size + 1 + 1, 0, none⟩ (.slice (some ⟨g', 0, none⟩) (pre.length + 1) cap')).heap[k]? = W.heap[k]? := fun k hk => hkk k (by omega) (by omega) (by omega)
        refine ⟨hk2.from _, ⟨hbb _ (by omega), hkk _ (by omega) (by omega) (by omega)⟩, ⟨H, by rw [e1]; exact hl1, ⟨_, hv2, by rw [e1, e2]; exact hr2⟩, (old _ (by omega)).trans hb0, (old _ (by omega)).trans hb1, ?_⟩, hB.trans (hbb _ (by omega))⟩
        have := (hbb 0 (by omega)).size
        omega
  case done =>
    rintro D ys W hD rfl ⟨⟨hp, hl, ⟨v, hb, hrow⟩, hb0, hb1, hsz⟩, hB⟩ hK
    obtain ⟨hc0, hf0⟩ := hb0.one
    obtain ⟨hc1, hf1⟩ := hb1.one
    obtain ⟨hc2, hf2⟩ := hb.one
    obtain ⟨av, cv, rfl⟩ := owns_form hrow
    have hrow' := hide hrow
    clear hrow
    gi_wp2
    have kk := (KeepsOthers.setCell W ⟨w.heap.size, 0, none⟩ (.slice av (cutL s.data.toList).length cv)).trans (KeepsOthers.setCell _ ⟨w.heap.size + 1, 0, none⟩ .nilIface)
    have hK' := kk.same D _ hK rfl
    refine ⟨by simp, .inl ⟨_, _, rfl, run_takeDeferred hK', ?_⟩⟩
    have q0 := ((((hb0.set 0 (.slice av (cutL s.data.toList).length cv)).other ⟨w.heap.size + 1, 0, none⟩ .nilIface (by simp)).put hK' rfl (.deferred none)).one).1
    have q1 := ((((hb1.other ⟨w.heap.size, 0, none⟩ (.slice av (cutL s.data.toList).length cv) (by simp)).set 0 .nilIface).put hK' rfl (.deferred none)).one).1
    have e0 : errL 0 (cutL s.data.toList) = 0 := errL_all _ (unhide hp) hl
    refine ⟨.tuple #[.slice av (cutL s.data.toList).length cv, .nilIface], ?_, .slice av (cutL s.data.toList).length cv, by rw [e0]; rfl, ?_, ((hB.setCell (p := ⟨w.heap.size, 0, none⟩) (Nat.le_refl _) _).setCell (p := ⟨w.heap.size + 1, 0, none⟩) (by simp) _).trans (belowK_b (w := w) (Nat.le_refl _) _ D _ _ (by omega) hK' rfl rfl)⟩
    · simp [results, Tryd.f10, go_sem, q0, q1]
    · have hw : wordsL s.data.toList = cutL s.data.toList := by rw [wordsL, if_pos e0]
      rw [hw]
      refine owns_base (by omega) (ownsRow_putObj (owns_keep (unhide hrow') fun g hg _ => ?_) _ hK' rfl)
      have := (owns_lt (unhide hrow') hg).1
      rw [setCell_block _ _ _ (by simp only; omega), setCell_block _ _ _ (by simp only; omega)]
  case stop =>
    rintro D c pre W hD ⟨r, hr⟩ ⟨⟨rfl, E, hE, hb0, hb1⟩, hB⟩ hK
    gi_wp2
    refine ⟨by simp, .inl ⟨_, _, rfl, run_takeDeferred hK, ?_⟩⟩
    have q0 := ((hb0.put hK rfl (.deferred none)).one).1
    have q1 := ((hb1.put hK rfl (.deferred none)).one).1
    have e0 : errL 0 (cutL s.data.toList) = E := by rw [hr]; exact (unhide hE).1 r
    have hne : E ≠ 0 := by
      rcases (unhide hE).2 with rfl | hm
      · decide
      · have := bad_mem (l := s.data.toList) (e := E) (by rw [hr]; exact List.mem_append_left _ hm)
        omega
    have hw : wordsL s.data.toList = [] := by rw [wordsL, if_neg (by rw [e0]; exact hne)]
    refine ⟨.tuple #[.slice none 0 0, .iface 40 (.int .i64 E)], ?_, .slice none 0 0, by rw [e0, errO_ne hne], by rw [hw]; exact World.ownsRow_nil _ _ _ _, hB.trans (belowK_b (w := w) (Nat.le_refl _) W D _ _ (by omega) hK rfl rfl)⟩
    simp [results, Tryd.f10, go_sem, q0, q1]

theorem cut10_c (s : ByteArray) (w : World) (hV : Vars w) (hs : s.size ≤ 281474976710656) :
    Calls Tryd.prog 10 #[.string s] w fun e W' => ∃ v, e = .returned (.tuple #[v, errO (errL 0 (cutL s.data.toList))]) ∧ W'.ownsRow w.heap.size 32 4 v (wordsL s.data.toList).length (cellsW (wordsL s.data.toList)) ∧ Below w.heap.size w W' :=
  callsIn_wide.1 (cut10_in 3 (Nat.le_refl _) s w hV hs)

end Go.Proofs.YtgfaaeloppdkkaaDoor
