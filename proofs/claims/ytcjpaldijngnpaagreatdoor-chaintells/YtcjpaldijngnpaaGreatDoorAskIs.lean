/-
  What event's Is answers: for every schema of at most 5 types of at most 5 fields and every event of at most 20 values, in whatever world; nothing that lay is turned.
-/
import Derived.Test.YtcjpaldijngnpaaGreatDoorWalk
import Derived.Test.YtcjpaldijngnpaaGreatDoorErrIs
import Derived.Test.YtcjpaldijngnpaaGreatDoorBox
namespace Go.Proofs.YtcjpaldijngnpaaGreatDoor
open Go.RowKit Go.Shelf

attribute [local go_sem] Oper.semAt_some

/-- Each value is of its field's kind. -/
def kindsB (l : List Sl) : Bool := l.all fun x => decide (x.2.1 = x.1.2)
theorem kindsB_snoc (l : List Sl) (x : Sl) : kindsB (l ++ [x]) = (kindsB l && decide (x.2.1 = x.1.2)) := by simp [kindsB]
theorem kinds_no (fs : List Fd) (vs : List Vl) (k m : Nat) (hk : k ≤ m) (h : kindsB (slTo fs vs k) = false) : kindsB (slTo fs vs m) = false := by
  unfold kindsB slTo at *
  simp only [List.all_eq_false, List.mem_map, List.mem_range] at *
  obtain ⟨x, ⟨j, hj, rfl⟩, hx⟩ := h
  exact ⟨_, ⟨j, by omega, rfl⟩, hx⟩
/-- The number of event's Is: 0 (none), 10, 13, 14. -/
def isE (ts : List Ty) (e : Ev) : Int :=
  match placeN (tnames ts) e.ty.1 with
  | none => 13
  | some k => if wholeB (ty ts k).2.length e.ts e.vs then (if kindsB (slTo (ty ts k).2 e.vs (min (ty ts k).2.length e.vs.length)) then 0 else 14) else 10
def errE (c : Int) : Value := if c = 0 then .nilIface else errV c

set_option maxRecDepth 100000 in
set_option maxHeartbeats 2000000 in
theorem is_none_in (n : Nat) (h1 : 1 ≤ n) (a av : Option Addr) (cap cv : Nat) (ts : List Ty) (t : Txt) (tm : Int) (nv : Nat) (h5 : ts.length ≤ 5) (w : World) (hT : Typs w.heap.size w a ts) (hp : placeN (tnames ts) t.1 = none) :
    CallsIn Fence.wide n Tryz.prog 36 #[.agg #[.slice a ts.length cap], .agg #[.string t.1, .int .i64 tm, .slice av nv cv]] w fun e W' => e = .returned (errV 13) ∧ Below w.heap.size w W' := by
  have b0 : Below w.heap.size w (((w.alloc (.cells #[.slice a ts.length cap] 24)).alloc (.cells #[.string t.1, .int .i64 tm, .slice av nv cv] 28)).alloc (.cells #[.nilIface] 33)) := (((Below.refl _ _).alloc (Nat.le_refl _) _).alloc (by simp) _).alloc (by simp; omega) _
  have s0 := hT.on b0
  have xr := Box.new ((w.alloc (.cells #[.slice a ts.length cap] 24)).alloc (.cells #[.string t.1, .int .i64 tm, .slice av nv cv] 28)) 33 #[.nilIface]
  simp only [World.size_alloc] at xr
  refine callsIn_of_wp_marks Tryz.func36 rfl trivial ?_ rfl
  simp only [Tryz.ntmps36, List.size_toArray, List.length_cons, List.length_nil, Nat.reduceAdd, Nat.reduceSub, Array.replicate_succ, Array.replicate_zero, List.push_toArray, List.append_toArray, List.nil_append, List.cons_append]
  gi_wp2_with fail
  refine ⟨trivial, ?_⟩
  refine (callsIn_wide.2 (find_none a cap ts t.1 h5 _ s0 hp)).mono ?_
  rintro e w1 ⟨rfl, hb1⟩
  have xr1 := (xr.on hb1 (by simp)).alloc (.cells #[.string ⟨#[]⟩, .slice none 0 0] 69)
  obtain ⟨hc1, hf1⟩ := xr1.one
  have b1 := (b0.trans (hb1.mono b0.size)).alloc (b0.trans (hb1.mono b0.size)).size (.cells #[.string ⟨#[]⟩, .slice none 0 0] 69)
  gi_wp2_with fail
  have xr2 := ((xr1.set 0 (errV 13)).one).1
  refine ⟨errV 13, ?_, rfl, b1.setCell (p := ⟨w.heap.size + 1 + 1, 0, none⟩) (by simp only; omega) _⟩
  simp [results, Tryz.f36, go_sem, xr2]

set_option maxRecDepth 100000 in
set_option maxHeartbeats 2000000 in
theorem is_form_in (n : Nat) (h1 : 1 ≤ n) (a av : Option Addr) (cap cv : Nat) (ts : List Ty) (t : Txt) (tm : Int) (vs : List Vl) (k : Nat) (h5 : ts.length ≤ 5) (hk5 : (ty ts k).2.length ≤ 5) (h20 : vs.length ≤ 20) (w : World) (hT : Typs w.heap.size w a ts) (hV : Vals w.heap.size w av vs) (hp : placeN (tnames ts) t.1 = some k) (hw : wholeB (ty ts k).2.length tm vs = false) :
    CallsIn Fence.wide n Tryz.prog 36 #[.agg #[.slice a ts.length cap], .agg #[.string t.1, .int .i64 tm, .slice av vs.length cv]] w fun e W' => e = .returned (errV 10) ∧ Below w.heap.size w W' := by
  have b0 : Below w.heap.size w (((w.alloc (.cells #[.slice a ts.length cap] 24)).alloc (.cells #[.string t.1, .int .i64 tm, .slice av vs.length cv] 28)).alloc (.cells #[.nilIface] 33)) := (((Below.refl _ _).alloc (Nat.le_refl _) _).alloc (by simp) _).alloc (by simp; omega) _
  have s0 := hT.on b0
  have v0 := hV.on b0
  have xe := (Box.new (w.alloc (.cells #[.slice a ts.length cap] 24)) 28 #[.string t.1, .int .i64 tm, .slice av vs.length cv]).alloc (.cells #[.nilIface] 33)
  have xr := Box.new ((w.alloc (.cells #[.slice a ts.length cap] 24)).alloc (.cells #[.string t.1, .int .i64 tm, .slice av vs.length cv] 28)) 33 #[.nilIface]
  simp only [World.size_alloc] at xr xe
  refine callsIn_of_wp_marks Tryz.func36 rfl trivial ?_ rfl
  simp only [Tryz.ntmps36, List.size_toArray, List.length_cons, List.length_nil, Nat.reduceAdd, Nat.reduceSub, Array.replicate_succ, Array.replicate_zero, List.push_toArray, List.append_toArray, List.nil_append, List.cons_append]
  gi_wp2_with fail
  refine ⟨trivial, ?_⟩
  refine (callsIn_wide.2 (find_some a cap ts t.1 k h5 _ s0 hp hk5)).mono ?_
  rintro e w1 ⟨a', c', rfl, ⟨hF, hnew⟩, hb1⟩
  have b1 : Below w1.heap.size w1 (w1.alloc (.cells #[.string (ty ts k).1.1, .slice a' (ty ts k).2.length c'] 69)) := (Below.refl _ _).alloc (Nat.le_refl _) _
  have xt1 := Box.new w1 69 #[.string (ty ts k).1.1, .slice a' (ty ts k).2.length c']
  have xe1 := (xe.on hb1 (by simp)).alloc (.cells #[.string (ty ts k).1.1, .slice a' (ty ts k).2.length c'] 69)
  have xr1 := (xr.on hb1 (by simp)).alloc (.cells #[.string (ty ts k).1.1, .slice a' (ty ts k).2.length c'] 69)
  have v1 := (v0.on hb1).on b1
  have F1 := hF.on b1
  have hnew := hide hnew
  obtain ⟨ht0, ht1⟩ := xt1.two
  obtain ⟨he0, he1, he2⟩ := xe1.three
  gi_wp2_with fail
  refine ⟨trivial, ?_⟩
  refine (callsIn_wide.2 (whole_c _ _ _ _ _ _ _ _ vs h20 _ v1)).mono ?_
  rintro e w2 ⟨rfl, hb2⟩
  rw [hw]
  have xr2 := xr1.on hb2 xr1.lt
  obtain ⟨hc1, hf1⟩ := xr2.one
  have b2 := b0.trans ((hb1.trans ((b1.trans (hb2.mono b1.size)).mono hb1.size)).mono b0.size)
  clear ht0 ht1 he0 he1 he2
  gi_wp2_with fail
  have xr3 := ((xr2.set 0 (errV 10)).one).1
  refine ⟨errV 10, ?_, rfl, b2.setCell (p := ⟨w.heap.size + 1 + 1, 0, none⟩) (by simp only; omega) _⟩
  simp [results, Tryz.f36, go_sem, xr3]

set_option maxRecDepth 100000 in
set_option maxHeartbeats 2000000 in
theorem is_range_in (n : Nat) (hn : 3 ≤ n) (a av : Option Addr) (cap cv : Nat) (ts : List Ty) (t : Txt) (tm : Int) (vs : List Vl) (k : Nat) (h5 : ts.length ≤ 5) (hk5 : (ty ts k).2.length ≤ 5) (h20 : vs.length ≤ 20) (w : World) (hT : Typs w.heap.size w a ts) (hV : Vals w.heap.size w av vs) (hp : placeN (tnames ts) t.1 = some k) (hw : wholeB (ty ts k).2.length tm vs = true) (rv : Value) (hrv : Hid (rv = errE (if kindsB (slTo (ty ts k).2 vs (min (ty ts k).2.length vs.length)) then 0 else 14))) :
    CallsIn Fence.wide n Tryz.prog 36 #[.agg #[.slice a ts.length cap], .agg #[.string t.1, .int .i64 tm, .slice av vs.length cv]] w fun e W' => e = .returned rv ∧ Below w.heap.size w W' := by
  have h1 : 1 ≤ n := by omega
  have hro : Fence.wide.round = none := rfl
  have b0 : Below w.heap.size w (((w.alloc (.cells #[.slice a ts.length cap] 24)).alloc (.cells #[.string t.1, .int .i64 tm, .slice av vs.length cv] 28)).alloc (.cells #[.nilIface] 33)) := (((Below.refl _ _).alloc (Nat.le_refl _) _).alloc (by simp) _).alloc (by simp; omega) _
  have s0 := hT.on b0
  have v0 := hV.on b0
  have xe := (Box.new (w.alloc (.cells #[.slice a ts.length cap] 24)) 28 #[.string t.1, .int .i64 tm, .slice av vs.length cv]).alloc (.cells #[.nilIface] 33)
  have xr := Box.new ((w.alloc (.cells #[.slice a ts.length cap] 24)).alloc (.cells #[.string t.1, .int .i64 tm, .slice av vs.length cv] 28)) 33 #[.nilIface]
  simp only [World.size_alloc] at xr xe
  refine callsIn_of_wp_marks Tryz.func36 rfl trivial ?_ rfl
  simp only [Tryz.ntmps36, List.size_toArray, List.length_cons, List.length_nil, Nat.reduceAdd, Nat.reduceSub, Array.replicate_succ, Array.replicate_zero, List.push_toArray, List.append_toArray, List.nil_append, List.cons_append]
  gi_wp2_with fail
  refine ⟨trivial, ?_⟩
  refine (callsIn_wide.2 (find_some a cap ts t.1 k h5 _ s0 hp hk5)).mono ?_
  rintro e w1 ⟨a', c', rfl, ⟨hF, hnew⟩, hb1⟩
  have b1 : Below w1.heap.size w1 (w1.alloc (.cells #[.string (ty ts k).1.1, .slice a' (ty ts k).2.length c'] 69)) := (Below.refl _ _).alloc (Nat.le_refl _) _
  have xt1 := Box.new w1 69 #[.string (ty ts k).1.1, .slice a' (ty ts k).2.length c']
  have xe1 := (xe.on hb1 (by simp)).alloc (.cells #[.string (ty ts k).1.1, .slice a' (ty ts k).2.length c'] 69)
  have xr1 := (xr.on hb1 (by simp)).alloc (.cells #[.string (ty ts k).1.1, .slice a' (ty ts k).2.length c'] 69)
  have v1 := (v0.on hb1).on b1
  have F1 := hF.on b1
  have hnew := hide hnew
  obtain ⟨ht0, ht1⟩ := xt1.two
  obtain ⟨he0, he1, he2⟩ := xe1.three
  gi_wp2_with fail
  refine ⟨trivial, ?_⟩
  refine (callsIn_wide.2 (whole_c _ _ _ _ _ _ _ _ vs h20 _ v1)).mono ?_
  rintro e w2 ⟨rfl, hb2⟩
  rw [hw]
  have xr2 := xr1.on hb2 xr1.lt
  have xt2 := xt1.on hb2 xt1.lt
  have xe2 := xe1.on hb2 xe1.lt
  have v2 := v1.on hb2
  have F2 := F1.on hb2
  clear ht0 ht1 he0 he1 he2
  obtain ⟨ht0, ht1⟩ := xt2.two
  obtain ⟨he0, he1, he2⟩ := xe2.three
  have b2 := b0.trans ((hb1.trans ((b1.trans (hb2.mono b1.size)).mono hb1.size)).mono b0.size)
  gi_wp2_with fail
  refine ⟨trivial, ?_⟩
  refine (slots_in (n - 1) _ _ _ _ _ _ _ _ _ _).mono ?_
  rintro e w3 ⟨rfl, rfl⟩
  gi_wp2_with fail
  have e0 := World.size_alloc w2 (.cells #[.string (ty ts k).1.1, .slice a' (ty ts k).2.length c'] 69)
  have xT := (Box.new w2 69 #[.string (ty ts k).1.1, .slice a' (ty ts k).2.length c']).alloc (.cells #[.string t.1, .int .i64 tm, .slice av vs.length cv] 28)
  have xE := Box.new (w2.alloc (.cells #[.string (ty ts k).1.1, .slice a' (ty ts k).2.length c'] 69)) 28 #[.string t.1, .int .i64 tm, .slice av vs.length cv]
  rw [e0] at xE
  have b3 : Below w2.heap.size w2 ((w2.alloc (.cells #[.string (ty ts k).1.1, .slice a' (ty ts k).2.length c'] 69)).alloc (.cells #[.string t.1, .int .i64 tm, .slice av vs.length cv] 28)) := ((Below.refl _ _).alloc (Nat.le_refl _) _).alloc (by simp) _
  have hB0 := b2.trans (b3.mono b2.size)
  have xR := (xr2.alloc (.cells #[.string (ty ts k).1.1, .slice a' (ty ts k).2.length c'] 69)).alloc (.cells #[.string t.1, .int .i64 tm, .slice av vs.length cv] 28)
  have hR2 := xr2.lt
  clear ht0 ht1 he0 he1 he2
  refine wpIn_rangeFunc_ownH hro h1 (gf := 98) (lb := #[.pointer (some ⟨w2.heap.size, 0, none⟩), .pointer (some ⟨w2.heap.size + 1, 0, none⟩)]) rfl trivial (enters_of Tryz.func98 (by kernel_rfl) rfl)
    (slots_stops (n - 1) (by omega) _ _ (w2.heap.size + 2) a' av c' cv (ty ts k).2 vs hk5 h20 _ (by omega) (by omega) (by simp) (xT.at 1 rfl) (xE.at 2 rfl) ((F2.below b3).mono (by omega)) ((v2.below b3).mono (by omega))) belowK_t (belowK_b (by simp)) (Below.refl _ _) (fun _ => rfl)
    (fun pre W => (Hid (kindsB pre = true) ∧ Box W (w.heap.size + 1 + 1) 33 #[.nilIface] ∧ w2.heap.size + 2 ≤ W.heap.size) ∧ Below w.heap.size w W)
    (fun c pre W => (c = .ret ∧ Hid (kindsB pre = false) ∧ Box W (w.heap.size + 1 + 1) 33 #[errV 14]) ∧ Below w.heap.size w W)
    (OwnFrom.and (Own.from (fun s A B row hs hg hr => ⟨hs.1, box_own _ _ (fun _ => _) s A B row hs.2.1 hg hr, Nat.le_trans hs.2.2 hg.size⟩) _) (ownFrom_below (Nat.le_refl _) hB0.size))
    (fun c => OwnFrom.and (Own.from (fun s A B row hs hg hr => by exact ⟨hs.1, hs.2.1, box_own _ _ (fun _ => _) s A B row hs.2.2 hg hr⟩) _) (ownFrom_below (Nat.le_refl _) hB0.size))
    ⟨⟨hide rfl, xR, by simp⟩, hB0⟩
    (fun x a1 W => ∃ Bf Bv, (Box W Bf 66 #[.string x.1.1.1, .int .i64 x.1.2] ∧ Box W Bv 40 #[.int .i64 x.2.1, .int .i64 x.2.2.1, .string x.2.2.2.1]) ∧ a1 = { tmps := #[.agg #[.slice a ts.length cap], .agg #[.string t.1, .int .i64 tm, .slice av vs.length cv], .pointer (some ⟨w.heap.size, 0, none⟩), .pointer (some ⟨w.heap.size + 1, 0, none⟩), .pointer (some ⟨w.heap.size + 1 + 1, 0, none⟩), .pointer (some ⟨w1.heap.size, 0, none⟩), .bool true, .pointer (some ⟨Bf, 0, none⟩), .pointer (some ⟨Bv, 0, none⟩), .tuple #[.agg #[.string (ty ts k).1.1, .slice a' (ty ts k).2.length c'], .bool true], .agg #[.slice a ts.length cap], .pointer (some ⟨w.heap.size + 1, 0, none⟩), .string t.1, .tuple #[.agg #[.string (ty ts k).1.1, .slice a' (ty ts k).2.length c'], .bool true], .agg #[.string (ty ts k).1.1, .slice a' (ty ts k).2.length c'], .bool true, .bool true, .bool false, undef, .agg #[.string (ty ts k).1.1, .slice a' (ty ts k).2.length c'], .agg #[.string t.1, .int .i64 tm, .slice av vs.length cv], .bool true, .bool false, undef, .agg #[.string (ty ts k).1.1, .slice a' (ty ts k).2.length c'], .agg #[.string t.1, .int .i64 tm, .slice av vs.length cv], .func (.func 98) #[] #[.pointer (some ⟨w2.heap.size, 0, none⟩), .pointer (some ⟨w2.heap.size + 1, 0, none⟩)], .agg #[.string x.1.1.1, .int .i64 x.1.2], .agg #[.int .i64 x.2.1, .int .i64 x.2.2.1, .string x.2.2.2.1], undef, undef, undef, undef, undef, undef], defers := [] })
    (fun x a1 s A B row hs hg hr => by
      obtain ⟨Bf, Bv, ⟨hf, hv⟩, e⟩ := hs
      exact ⟨Bf, Bv, ⟨box_own _ _ (fun _ => _) s A B row hf hg (fun r e => (hr r e).2), box_own _ _ (fun _ => _) s A B row hv hg (fun r e => (hr r e).2)⟩, e⟩) ?assign ?body ?done ?stop
  case assign =>
    rintro l pre x W K ⟨⟨hp, hb, hz⟩, hB⟩ hK
    gi_wp2
    have hs := hB.size
    have hs2 := hb.lt
    refine hK _ _ ?_ ?_ ?_ ?_
    · exact (keeps_below (((Below.refl _ W).alloc (Nat.le_refl _) _).alloc (by simp) _)).from _
    · exact ((Below.refl _ W).alloc hz _).alloc (by simp; omega) _
    · exact ⟨⟨hp, (hb.alloc _).alloc _, by simp; omega⟩, (hB.alloc hs _).alloc (by simp; omega) _⟩
    · refine ⟨W.heap.size, W.heap.size + 1, ⟨(Box.new W 66 _).alloc _, ?_⟩, rfl⟩
      have := Box.new (W.alloc (.cells #[.string x.1.1.1, .int .i64 x.1.2] 66)) 40 #[.int .i64 x.2.1, .int .i64 x.2.2.1, .string x.2.2.2.1]
      simpa using this
  case body =>
    rintro l pre x a1 W hl hr ⟨⟨hp, hb, hz⟩, hB⟩ ⟨Bf, Bv, ⟨hf, hv⟩, rfl⟩ hlt
    have h2 : 1 ≤ n - 1 - 1 := by omega
    obtain ⟨hf0, hf1⟩ := hf.two
    obtain ⟨hv0, hv1, hv2⟩ := hv.three
    obtain ⟨hc, hfz⟩ := hb.one
    by_cases hx : x.2.1 = x.1.2
    · have hx' : (x.2.1 == x.1.2) = true := by simp [hx]
      gi_wp2
      exact ⟨KeepsFrom.refl _ _, Below.refl _ _, ⟨hide (by rw [kindsB_snoc, unhide hp]; simp [hx]), hb, hz⟩, hB⟩
    · have hx' : (x.2.1 == x.1.2) = false := by simp [hx]
      have hx2 := hide hx
      clear hx
      gi_wp2
      exact ⟨(KeepsOthers.setCell _ _ _).from _, ⟨rfl, hide (by rw [kindsB_snoc]; simp [unhide hx2]), hb.set 0 (errV 14)⟩, hB.setCell (p := ⟨w.heap.size + 1 + 1, 0, none⟩) (by simp only; omega) _⟩
  case done =>
    rintro D ys W hD rfl ⟨⟨hne, hb, _⟩, hB⟩ hK
    obtain ⟨hc, hfz⟩ := hb.one
    gi_wp2
    have hK' := (KeepsOthers.setCell W ⟨w.heap.size + 1 + 1, 0, none⟩ .nilIface).same D _ hK rfl
    refine ⟨by simp, .inl ⟨_, _, rfl, run_takeDeferred hK', ?_⟩⟩
    have hc5 := (((hb.set 0 .nilIface).put hK' rfl (.deferred none)).one).1
    refine ⟨.nilIface, ?_, by rw [unhide hrv, unhide hne]; rfl, (hB.setCell (p := ⟨w.heap.size + 1 + 1, 0, none⟩) (by simp only; omega) _).trans (belowK_b (w := w) (Nat.le_refl _) _ D _ _ (by have := hB0.size; omega) hK' rfl rfl)⟩
    simp [results, Tryz.f36, go_sem, hc5]
  case stop =>
    rintro D c pre W hD ⟨j, hj, rfl⟩ ⟨⟨rfl, hne, hb⟩, hB⟩ hK
    gi_wp2
    refine ⟨by simp, .inl ⟨_, _, rfl, run_takeDeferred hK, ?_⟩⟩
    have hc5 := ((hb.put hK rfl (.deferred none)).one).1
    refine ⟨errV 14, ?_, by rw [unhide hrv, kinds_no _ _ _ _ hj (unhide hne)]; rfl, hB.trans (belowK_b (w := w) (Nat.le_refl _) W D _ _ (by have := hB0.size; omega) hK rfl rfl)⟩
    simp [results, Tryz.f36, go_sem, hc5]

theorem is_c (a av : Option Addr) (cap cv : Nat) (ts : List Ty) (x : Ev) (h5 : ts.length ≤ 5) (hk5 : ∀ k, (ty ts k).2.length ≤ 5) (h20 : x.vs.length ≤ 20) (w : World) (hT : Typs w.heap.size w a ts) (hV : Vals w.heap.size w av x.vs) :
    Calls Tryz.prog 36 #[.agg #[.slice a ts.length cap], .agg #[.string x.ty.1, .int .i64 x.ts, .slice av x.vs.length cv]] w fun e W' => e = .returned (errE (isE ts x)) ∧ Below w.heap.size w W' := by
  cases hp : placeN (tnames ts) x.ty.1 with
  | none =>
    have e : isE ts x = 13 := by simp [isE, hp]
    rw [e]
    exact callsIn_wide.1 (is_none_in 1 (Nat.le_refl _) a av cap cv ts x.ty x.ts x.vs.length h5 w hT hp)
  | some k =>
    cases hw : wholeB (ty ts k).2.length x.ts x.vs
    · have e : isE ts x = 10 := by simp [isE, hp, hw]
      rw [e]
      exact callsIn_wide.1 (is_form_in 1 (Nat.le_refl _) a av cap cv ts x.ty x.ts x.vs k h5 (hk5 k) h20 w hT hV hp hw)
    · have e : isE ts x = if kindsB (slTo (ty ts k).2 x.vs (min (ty ts k).2.length x.vs.length)) then 0 else 14 := by simp [isE, hp, hw]
      rw [e]
      exact callsIn_wide.1 (is_range_in 3 (Nat.le_refl _) a av cap cv ts x.ty x.ts x.vs k h5 (hk5 k) h20 w hT hV hp hw _ (hide rfl))

end Go.Proofs.YtcjpaldijngnpaaGreatDoor
