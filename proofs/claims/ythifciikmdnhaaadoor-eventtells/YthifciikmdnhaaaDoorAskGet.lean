/-
  What event's Get answers: for every schema of at most 5 types of at most 5 fields, every event of at most 20 values and every name, in whatever world; nothing that lay is turned.
-/
import Derived.Test.YthifciikmdnhaaaDoorAskIs
namespace Go.Proofs.YthifciikmdnhaaaDoor
open Go.RowKit Go.Shelf

attribute [local go_sem] Oper.semAt_some

def nameS (f : ByteArray) (x : Sl) : Bool := eqT f x.1.1
def noneS (f : ByteArray) (l : List Sl) : Bool := l.all fun x => !nameS f x
theorem noneS_snoc (f : ByteArray) (l : List Sl) (x : Sl) : noneS f (l ++ [x]) = (noneS f l && !nameS f x) := by simp [noneS]
abbrev vlV (v : Vl) : Value := .agg #[.int .i64 v.1, .int .i64 v.2.1, .string v.2.2.1]
abbrev zeroV : Value := .agg #[.int .i64 0, .int .i64 0, .string ⟨#[]⟩]
/-- What Get finds. -/
def getS (f : ByteArray) (l : List Sl) : Option Vl := (l.find? (nameS f)).map (·.2)
def getE (ts : List Ty) (x : Ev) (f : ByteArray) : Option Vl :=
  match placeN (tnames ts) x.ty.1 with
  | none => none
  | some k => getS f (slTo (ty ts k).2 x.vs (min (ty ts k).2.length x.vs.length))
def gotV : Option Vl → Value
  | none => .tuple #[zeroV, .bool false]
  | some v => .tuple #[vlV v, .bool true]
theorem getS_none {f : ByteArray} {l : List Sl} (h : noneS f l = true) : getS f l = none := by
  simp only [getS, Option.map_eq_none_iff, List.find?_eq_none]
  simpa [noneS] using h
theorem getS_some {f : ByteArray} {fs : List Fd} {vs : List Vl} {j m : Nat} {q : List Sl} {x : Sl} (hj : j ≤ m) (e : slTo fs vs j = q ++ [x]) (hq : noneS f q = true) (hx : nameS f x = true) : getS f (slTo fs vs m) = some x.2 := by
  obtain ⟨r, hr⟩ : ∃ r, slTo fs vs m = slTo fs vs j ++ r := by
    refine ⟨((List.range m).drop j).map fun i => (fd fs i, vl vs i), ?_⟩
    have : List.range j = (List.range m).take j := by rw [List.take_range, Nat.min_eq_left hj]
    rw [slTo, slTo, this, ← List.map_append, List.take_append_drop]
  have h0 : List.find? (nameS f) q = none := by
    rw [List.find?_eq_none]; simpa [noneS] using hq
  rw [getS, hr, e, List.append_assoc, List.find?_append, h0]
  simp [hx]

set_option maxRecDepth 100000 in
set_option maxHeartbeats 2000000 in
theorem get_none_in (n : Nat) (h1 : 1 ≤ n) (a av : Option Addr) (cap cv : Nat) (ts : List Ty) (t : Txt) (tm : Int) (nv : Nat) (f : ByteArray) (h5 : ts.length ≤ 5) (w : World) (hT : Typs w.heap.size w a ts) (hp : placeN (tnames ts) t.1 = none) :
    CallsIn Fence.wide n Tryd.prog 6 #[.agg #[.slice a ts.length cap], .agg #[.string t.1, .int .i64 tm, .slice av nv cv], .string f] w fun e W' => e = .returned (.tuple #[zeroV, .bool false]) ∧ Below w.heap.size w W' := by
  obtain ⟨w0, hw0⟩ : ∃ w0, w0 = ((w.alloc (.cells #[.slice a ts.length cap] 24)).alloc (.cells #[.string t.1, .int .i64 tm, .slice av nv cv] 27)).alloc (.cells #[.string f] 9) := ⟨_, rfl⟩
  have e0 : w0.heap.size = w.heap.size + 1 + 1 + 1 := by rw [hw0]; simp
  have b00 : Below w.heap.size w w0 := by rw [hw0]; exact (((Below.refl _ _).alloc (Nat.le_refl _) _).alloc (by simp) _).alloc (by simp; omega) _
  have b0 : Below w.heap.size w ((w0.alloc (.cells #[.int .i64 0, .int .i64 0, .string ⟨#[]⟩] 31)).alloc (.cells #[.bool false] 4)) := (b00.alloc b00.size _).alloc (by simp; omega) _
  have s0 := hT.on b0
  have xr := (Box.new w0 31 #[.int .i64 0, .int .i64 0, .string ⟨#[]⟩]).alloc (.cells #[.bool false] 4)
  have xk := Box.new (w0.alloc (.cells #[.int .i64 0, .int .i64 0, .string ⟨#[]⟩] 31)) 4 #[.bool false]
  rw [World.size_alloc, e0] at xk
  rw [e0] at xr
  rw [hw0] at s0 xr xk b0
  clear b00 e0 hw0 w0
  refine callsIn_of_wp_marks Tryd.func6 rfl trivial ?_ rfl
  simp only [Tryd.ntmps6, List.size_toArray, List.length_cons, List.length_nil, Nat.reduceAdd, Nat.reduceSub, Array.replicate_succ, Array.replicate_zero, List.push_toArray, List.append_toArray, List.nil_append, List.cons_append]
  gi_wp2_with fail
  refine ⟨trivial, ?_⟩
  refine (callsIn_wide.2 (find_none a cap ts t.1 h5 _ s0 hp)).mono ?_
  rintro e w1 ⟨rfl, hb1⟩
  have xr1 := (xr.on hb1 xr.lt).alloc (.cells #[.string ⟨#[]⟩, .slice none 0 0] 46)
  have xk1 := (xk.on hb1 xk.lt).alloc (.cells #[.string ⟨#[]⟩, .slice none 0 0] 46)
  obtain ⟨hc0, hc1, hc2⟩ := xr1.three
  have hf0 := xr1.frz 0
  have hf1 := xr1.frz 1
  have hf2 := xr1.frz 2
  obtain ⟨hk0, hg0⟩ := xk1.one
  have b1 := (b0.trans (hb1.mono b0.size)).alloc (b0.trans (hb1.mono b0.size)).size (.cells #[.string ⟨#[]⟩, .slice none 0 0] 46)
  gi_wp2_with fail
  have xr2 := ((((xr1.set 0 (.int .i64 0)).set 1 (.int .i64 0)).set 2 (.string ⟨#[]⟩)).other ⟨w.heap.size + 1 + 1 + 1 + 1, 0, none⟩ (.bool false) (by simp)).three
  have xk2 := (((((xk1.other ⟨w.heap.size + 1 + 1 + 1, 0, none⟩ (.int .i64 0) (by simp)).other ⟨w.heap.size + 1 + 1 + 1, 1, none⟩ (.int .i64 0) (by simp)).other ⟨w.heap.size + 1 + 1 + 1, 2, none⟩ (.string ⟨#[]⟩) (by simp)).set 0 (.bool false)).one).1
  obtain ⟨hq0, hq1, hq2⟩ := xr2
  refine ⟨.tuple #[zeroV, .bool false], ?_, rfl, (((b1.setCell (p := ⟨w.heap.size + 1 + 1 + 1, 0, none⟩) (by simp only; omega) _).setCell (p := ⟨w.heap.size + 1 + 1 + 1, 1, none⟩) (by simp only; omega) _).setCell (p := ⟨w.heap.size + 1 + 1 + 1, 2, none⟩) (by simp only; omega) _).setCell (p := ⟨w.heap.size + 1 + 1 + 1 + 1, 0, none⟩) (by simp only; omega) _⟩
  simp [results, Tryd.f6, go_sem, hq0, hq1, hq2, xk2]

set_option maxRecDepth 100000 in
set_option maxHeartbeats 2000000 in
theorem get_range_in (n : Nat) (hn : 3 ≤ n) (a av : Option Addr) (cap cv : Nat) (ts : List Ty) (t : Txt) (tm : Int) (vs : List Vl) (f : ByteArray) (k : Nat) (h5 : ts.length ≤ 5) (hk5 : (ty ts k).2.length ≤ 5) (h20 : vs.length ≤ 20) (w : World) (hT : Typs w.heap.size w a ts) (hV : Vals w.heap.size w av vs) (hp : placeN (tnames ts) t.1 = some k) (rv : Value) (hrv : Hid (rv = gotV (getS f (slTo (ty ts k).2 vs (min (ty ts k).2.length vs.length))))) :
    CallsIn Fence.wide n Tryd.prog 6 #[.agg #[.slice a ts.length cap], .agg #[.string t.1, .int .i64 tm, .slice av vs.length cv], .string f] w fun e W' => e = .returned rv ∧ Below w.heap.size w W' := by
  have h1 : 1 ≤ n := by omega
  have hro : Fence.wide.round = none := rfl
  obtain ⟨w0, hw0⟩ : ∃ w0, w0 = (w.alloc (.cells #[.slice a ts.length cap] 24)).alloc (.cells #[.string t.1, .int .i64 tm, .slice av vs.length cv] 27) := ⟨_, rfl⟩
  have e0 : w0.heap.size = w.heap.size + 1 + 1 := by rw [hw0]; simp
  have b00 : Below w.heap.size w w0 := by rw [hw0]; exact ((Below.refl _ _).alloc (Nat.le_refl _) _).alloc (by simp) _
  have b0 : Below w.heap.size w (((w0.alloc (.cells #[.string f] 9)).alloc (.cells #[.int .i64 0, .int .i64 0, .string ⟨#[]⟩] 31)).alloc (.cells #[.bool false] 4)) := ((b00.alloc b00.size _).alloc (by simp; omega) _).alloc (by simp; omega) _
  have s0 := hT.on b0
  have v0 := hV.on b0
  have xe0 : Box w0 (w.heap.size + 1) 27 #[.string t.1, .int .i64 tm, .slice av vs.length cv] := by
    have := Box.new (w.alloc (.cells #[.slice a ts.length cap] 24)) 27 #[.string t.1, .int .i64 tm, .slice av vs.length cv]
    rw [World.size_alloc] at this
    rw [hw0]; exact this
  have xe := ((xe0.alloc (.cells #[.string f] 9)).alloc (.cells #[.int .i64 0, .int .i64 0, .string ⟨#[]⟩] 31)).alloc (.cells #[.bool false] 4)
  have xf := ((Box.new w0 9 #[.string f]).alloc (.cells #[.int .i64 0, .int .i64 0, .string ⟨#[]⟩] 31)).alloc (.cells #[.bool false] 4)
  have xr := (Box.new (w0.alloc (.cells #[.string f] 9)) 31 #[.int .i64 0, .int .i64 0, .string ⟨#[]⟩]).alloc (.cells #[.bool false] 4)
  have xk := Box.new ((w0.alloc (.cells #[.string f] 9)).alloc (.cells #[.int .i64 0, .int .i64 0, .string ⟨#[]⟩] 31)) 4 #[.bool false]
  rw [World.size_alloc, World.size_alloc, e0] at xk
  rw [World.size_alloc, e0] at xr
  rw [e0] at xf
  rw [hw0] at s0 v0 xe xf xr xk b0
  clear xe0 b00 e0 hw0 w0
  refine callsIn_of_wp_marks Tryd.func6 rfl trivial ?_ rfl
  simp only [Tryd.ntmps6, List.size_toArray, List.length_cons, List.length_nil, Nat.reduceAdd, Nat.reduceSub, Array.replicate_succ, Array.replicate_zero, List.push_toArray, List.append_toArray, List.nil_append, List.cons_append]
  gi_wp2_with fail
  refine ⟨trivial, ?_⟩
  refine (callsIn_wide.2 (find_some a cap ts t.1 k h5 _ s0 hp hk5)).mono ?_
  rintro e w1 ⟨a', c', rfl, ⟨hF, hnew⟩, hb1⟩
  have b1 : Below w1.heap.size w1 (w1.alloc (.cells #[.string (ty ts k).1.1, .slice a' (ty ts k).2.length c'] 46)) := (Below.refl _ _).alloc (Nat.le_refl _) _
  obtain ⟨w2, hw2⟩ : ∃ w2, w2 = w1.alloc (.cells #[.string (ty ts k).1.1, .slice a' (ty ts k).2.length c'] 46) := ⟨_, rfl⟩
  have xt2 := Box.new w1 46 #[.string (ty ts k).1.1, .slice a' (ty ts k).2.length c']
  have xe2 := (xe.on hb1 xe.lt).alloc (.cells #[.string (ty ts k).1.1, .slice a' (ty ts k).2.length c'] 46)
  have xf2 := (xf.on hb1 xf.lt).alloc (.cells #[.string (ty ts k).1.1, .slice a' (ty ts k).2.length c'] 46)
  have xr2 := (xr.on hb1 xr.lt).alloc (.cells #[.string (ty ts k).1.1, .slice a' (ty ts k).2.length c'] 46)
  have xk2 := (xk.on hb1 xk.lt).alloc (.cells #[.string (ty ts k).1.1, .slice a' (ty ts k).2.length c'] 46)
  have v2 := (v0.on hb1).on b1
  have F2 := hF.on b1
  have b2 := b0.trans ((hb1.trans (b1.mono hb1.size)).mono b0.size)
  clear hnew hF
  obtain ⟨ht0, ht1⟩ := xt2.two
  obtain ⟨he0, he1, he2⟩ := xe2.three
  gi_wp2_with fail
  refine ⟨trivial, ?_⟩
  refine (slots_in (n - 1) _ _ _ _ _ _ _ _ _ _).mono ?_
  rintro e w3 ⟨rfl, rfl⟩
  gi_wp2_with fail
  rw [← hw2] at xt2 xe2 xf2 xr2 xk2 v2 F2 b2 ⊢
  have hz2 : w2.heap.size = w1.heap.size + 1 := by rw [hw2]; simp
  clear ht0 ht1 he0 he1 he2 b1 hw2
  rw [← hz2]
  clear hz2
  have xT := (Box.new w2 46 #[.string (ty ts k).1.1, .slice a' (ty ts k).2.length c']).alloc (.cells #[.string t.1, .int .i64 tm, .slice av vs.length cv] 27)
  have xE := Box.new (w2.alloc (.cells #[.string (ty ts k).1.1, .slice a' (ty ts k).2.length c'] 46)) 27 #[.string t.1, .int .i64 tm, .slice av vs.length cv]
  rw [World.size_alloc] at xE
  have b3 : Below w2.heap.size w2 ((w2.alloc (.cells #[.string (ty ts k).1.1, .slice a' (ty ts k).2.length c'] 46)).alloc (.cells #[.string t.1, .int .i64 tm, .slice av vs.length cv] 27)) := ((Below.refl _ _).alloc (Nat.le_refl _) _).alloc (by simp) _
  have hB0 := b2.trans (b3.mono b2.size)
  have xF := (xf2.alloc (.cells #[.string (ty ts k).1.1, .slice a' (ty ts k).2.length c'] 46)).alloc (.cells #[.string t.1, .int .i64 tm, .slice av vs.length cv] 27)
  have xR := (xr2.alloc (.cells #[.string (ty ts k).1.1, .slice a' (ty ts k).2.length c'] 46)).alloc (.cells #[.string t.1, .int .i64 tm, .slice av vs.length cv] 27)
  have xK := (xk2.alloc (.cells #[.string (ty ts k).1.1, .slice a' (ty ts k).2.length c'] 46)).alloc (.cells #[.string t.1, .int .i64 tm, .slice av vs.length cv] 27)
  refine wpIn_rangeFunc_ownH hro h1 (gf := 31) (lb := #[.pointer (some ⟨w2.heap.size, 0, none⟩), .pointer (some ⟨w2.heap.size + 1, 0, none⟩)]) rfl trivial (enters_of Tryd.func31 (by kernel_rfl) rfl)
    (slots_stops (n - 1) (by omega) _ _ (w2.heap.size + 2) a' av c' cv (ty ts k).2 vs hk5 h20 _ (by omega) (by omega) (by simp) (xT.at 1 rfl) (xE.at 2 rfl) ((F2.below b3).mono (by omega)) ((v2.below b3).mono (by omega))) belowK_t (belowK_b (by simp)) (Below.refl _ _) (fun _ => rfl)
    (fun pre W => (Hid (noneS f pre = true) ∧ Box W (w.heap.size + 1 + 1) 9 #[.string f] ∧ Box W (w.heap.size + 1 + 1 + 1) 31 #[.int .i64 0, .int .i64 0, .string ⟨#[]⟩] ∧ Box W (w.heap.size + 1 + 1 + 1 + 1) 4 #[.bool false] ∧ w2.heap.size + 2 ≤ W.heap.size) ∧ Below w.heap.size w W)
    (fun c pre W => (c = .ret ∧ ∃ x : Sl, Hid (∃ q, pre = q ++ [x] ∧ noneS f q = true ∧ nameS f x = true) ∧ Box W (w.heap.size + 1 + 1 + 1) 31 #[.int .i64 x.2.1, .int .i64 x.2.2.1, .string x.2.2.2.1] ∧ Box W (w.heap.size + 1 + 1 + 1 + 1) 4 #[.bool true]) ∧ Below w.heap.size w W)
    (OwnFrom.and (Own.from (fun s A B row hs hg hr => ⟨hs.1, box_own _ _ (fun _ => _) s A B row hs.2.1 hg hr, box_own _ _ (fun _ => _) s A B row hs.2.2.1 hg hr, box_own _ _ (fun _ => _) s A B row hs.2.2.2.1 hg hr, Nat.le_trans hs.2.2.2.2 hg.size⟩) _) (ownFrom_below (Nat.le_refl _) hB0.size))
    (fun c => OwnFrom.and (Own.from (fun s A B row hs hg hr => by
      obtain ⟨hc, x, hx, hb, hb'⟩ := hs
      exact ⟨hc, x, hx, box_own _ _ (fun _ => _) s A B row hb hg hr, box_own _ _ (fun _ => _) s A B row hb' hg hr⟩) _) (ownFrom_below (Nat.le_refl _) hB0.size))
    ⟨⟨hide rfl, xF, xR, xK, by simp⟩, hB0⟩
    (fun x a1 W => ∃ Bf Bv, (Box W Bf 43 #[.string x.1.1.1, .int .i64 x.1.2] ∧ Box W Bv 31 #[.int .i64 x.2.1, .int .i64 x.2.2.1, .string x.2.2.2.1]) ∧ a1 = { tmps := #[.agg #[.slice a ts.length cap], .agg #[.string t.1, .int .i64 tm, .slice av vs.length cv], .string f, .pointer (some ⟨w.heap.size, 0, none⟩), .pointer (some ⟨w.heap.size + 1, 0, none⟩), .pointer (some ⟨w.heap.size + 1 + 1, 0, none⟩), .pointer (some ⟨w.heap.size + 1 + 1 + 1, 0, none⟩), .pointer (some ⟨w.heap.size + 1 + 1 + 1 + 1, 0, none⟩), .pointer (some ⟨w1.heap.size, 0, none⟩), .bool true, .pointer (some ⟨Bf, 0, none⟩), .pointer (some ⟨Bv, 0, none⟩), .tuple #[.agg #[.string (ty ts k).1.1, .slice a' (ty ts k).2.length c'], .bool true], .agg #[.slice a ts.length cap], .pointer (some ⟨w.heap.size + 1, 0, none⟩), .string t.1, .tuple #[.agg #[.string (ty ts k).1.1, .slice a' (ty ts k).2.length c'], .bool true], .agg #[.string (ty ts k).1.1, .slice a' (ty ts k).2.length c'], .bool true, .bool true, .bool false, undef, .agg #[.string (ty ts k).1.1, .slice a' (ty ts k).2.length c'], .agg #[.string t.1, .int .i64 tm, .slice av vs.length cv], .func (.func 31) #[] #[.pointer (some ⟨w2.heap.size, 0, none⟩), .pointer (some ⟨w2.heap.size + 1, 0, none⟩)], .agg #[.string x.1.1.1, .int .i64 x.1.2], .agg #[.int .i64 x.2.1, .int .i64 x.2.2.1, .string x.2.2.2.1], undef, undef, undef, undef, undef, undef], defers := [] })
    (fun x a1 s A B row hs hg hr => by
      obtain ⟨Bf, Bv, ⟨hf, hv⟩, e⟩ := hs
      exact ⟨Bf, Bv, ⟨box_own _ _ (fun _ => _) s A B row hf hg (fun r e => (hr r e).2), box_own _ _ (fun _ => _) s A B row hv hg (fun r e => (hr r e).2)⟩, e⟩) ?assign ?body ?done ?stop
  case assign =>
    rintro l pre x W K ⟨⟨hp, hb, hb', hb2, hz⟩, hB⟩ hK
    gi_wp2
    have hs := hB.size
    refine hK _ _ ?_ ?_ ?_ ?_
    · exact (keeps_below (((Below.refl _ W).alloc (Nat.le_refl _) _).alloc (by simp) _)).from _
    · exact ((Below.refl _ W).alloc hz _).alloc (by simp; omega) _
    · exact ⟨⟨hp, (hb.alloc _).alloc _, (hb'.alloc _).alloc _, (hb2.alloc _).alloc _, by simp; omega⟩, (hB.alloc hs _).alloc (by simp; omega) _⟩
    · refine ⟨W.heap.size, W.heap.size + 1, ⟨(Box.new W 43 _).alloc _, ?_⟩, rfl⟩
      have := Box.new (W.alloc (.cells #[.string x.1.1.1, .int .i64 x.1.2] 43)) 31 #[.int .i64 x.2.1, .int .i64 x.2.2.1, .string x.2.2.2.1]
      simpa using this
  case body =>
    rintro l pre x a1 W hl hr ⟨⟨hp, hb, hb', hb2, hz⟩, hB⟩ ⟨Bf, Bv, ⟨hf, hv⟩, rfl⟩ hlt
    have h2 : 1 ≤ n - 1 - 1 := by omega
    obtain ⟨hf0, hf1⟩ := hf.two
    obtain ⟨hv0, hv1, hv2⟩ := hv.three
    obtain ⟨hc, hfz⟩ := hb.one
    obtain ⟨hr0, hr1, hr2⟩ := hb'.three
    have hg0 := hb'.frz 0
    have hg1 := hb'.frz 1
    have hg2 := hb'.frz 2
    obtain ⟨hk0, hkz⟩ := hb2.one
    cases hx : nameS f x
    · have hx' : (x.1.1.1.toList == f.toList) = false := hx
      have hx2 := hide hx
      clear hx
      gi_wp2
      exact ⟨KeepsFrom.refl _ _, Below.refl _ _, ⟨hide (by rw [noneS_snoc, unhide hp, unhide hx2]; rfl), hb, hb', hb2, hz⟩, hB⟩
    · have hx' : (x.1.1.1.toList == f.toList) = true := hx
      have hx2 := hide hx
      clear hx
      gi_wp2
      refine ⟨(((KeepsOthers.setCell _ _ _).trans (KeepsOthers.setCell _ _ _)).trans ((KeepsOthers.setCell _ _ _).trans (KeepsOthers.setCell _ _ _))).from _, ⟨rfl, x, hide ⟨pre, rfl, unhide hp, unhide hx2⟩, ?_, ?_⟩, (((hB.setCell (p := ⟨w.heap.size + 1 + 1 + 1, 0, none⟩) (by simp only; omega) _).setCell (p := ⟨w.heap.size + 1 + 1 + 1, 1, none⟩) (by simp only; omega) _).setCell (p := ⟨w.heap.size + 1 + 1 + 1, 2, none⟩) (by simp only; omega) _).setCell (p := ⟨w.heap.size + 1 + 1 + 1 + 1, 0, none⟩) (by simp only; omega) _⟩
      · exact (((hb'.set 0 (.int .i64 x.2.1)).set 1 (.int .i64 x.2.2.1)).set 2 (.string x.2.2.2.1)).other ⟨w.heap.size + 1 + 1 + 1 + 1, 0, none⟩ (.bool true) (by simp)
      · exact (((hb2.other ⟨w.heap.size + 1 + 1 + 1, 0, none⟩ (.int .i64 x.2.1) (by simp)).other ⟨w.heap.size + 1 + 1 + 1, 1, none⟩ (.int .i64 x.2.2.1) (by simp)).other ⟨w.heap.size + 1 + 1 + 1, 2, none⟩ (.string x.2.2.2.1) (by simp)).set 0 (.bool true)
  case done =>
    rintro D ys W hD rfl ⟨⟨hne, hb, hb', hb2, _⟩, hB⟩ hK
    obtain ⟨hr0, hr1, hr2⟩ := hb'.three
    have hg0 := hb'.frz 0
    have hg1 := hb'.frz 1
    have hg2 := hb'.frz 2
    obtain ⟨hk0, hkz⟩ := hb2.one
    gi_wp2
    have hK' := (((KeepsOthers.setCell W ⟨w.heap.size + 1 + 1 + 1, 0, none⟩ (.int .i64 0)).trans (KeepsOthers.setCell _ ⟨w.heap.size + 1 + 1 + 1, 1, none⟩ (.int .i64 0))).trans ((KeepsOthers.setCell _ ⟨w.heap.size + 1 + 1 + 1, 2, none⟩ (.string ⟨#[]⟩)).trans (KeepsOthers.setCell _ ⟨w.heap.size + 1 + 1 + 1 + 1, 0, none⟩ (.bool false)))).same D _ hK rfl
    refine ⟨by simp, .inl ⟨_, _, rfl, run_takeDeferred hK', ?_⟩⟩
    have xr2 := ((((hb'.set 0 (.int .i64 0)).set 1 (.int .i64 0)).set 2 (.string ⟨#[]⟩)).other ⟨w.heap.size + 1 + 1 + 1 + 1, 0, none⟩ (.bool false) (by simp)).put hK' rfl (.deferred none)
    have xk2 := ((((hb2.other ⟨w.heap.size + 1 + 1 + 1, 0, none⟩ (.int .i64 0) (by simp)).other ⟨w.heap.size + 1 + 1 + 1, 1, none⟩ (.int .i64 0) (by simp)).other ⟨w.heap.size + 1 + 1 + 1, 2, none⟩ (.string ⟨#[]⟩) (by simp)).set 0 (.bool false)).put hK' rfl (.deferred none)
    obtain ⟨hq0, hq1, hq2⟩ := xr2.three
    have hq3 := xk2.one.1
    refine ⟨.tuple #[zeroV, .bool false], ?_, by rw [unhide hrv, getS_none (unhide hne)]; rfl, ((((hB.setCell (p := ⟨w.heap.size + 1 + 1 + 1, 0, none⟩) (by simp only; omega) _).setCell (p := ⟨w.heap.size + 1 + 1 + 1, 1, none⟩) (by simp only; omega) _).setCell (p := ⟨w.heap.size + 1 + 1 + 1, 2, none⟩) (by simp only; omega) _).setCell (p := ⟨w.heap.size + 1 + 1 + 1 + 1, 0, none⟩) (by simp only; omega) _).trans (belowK_b (w := w) (Nat.le_refl _) _ D _ _ (by have := hB0.size; omega) hK' rfl rfl)⟩
    simp [results, Tryd.f6, go_sem, hq0, hq1, hq2, hq3]
  case stop =>
    rintro D c pre W hD ⟨j, hj, rfl⟩ ⟨⟨rfl, x, hne, hb', hb2⟩, hB⟩ hK
    gi_wp2
    refine ⟨by simp, .inl ⟨_, _, rfl, run_takeDeferred hK, ?_⟩⟩
    obtain ⟨hq0, hq1, hq2⟩ := (hb'.put hK rfl (.deferred none)).three
    have hq3 := (hb2.put hK rfl (.deferred none)).one.1
    obtain ⟨q, e, hq, hx⟩ := unhide hne
    refine ⟨.tuple #[vlV x.2, .bool true], ?_, by rw [unhide hrv, getS_some hj e hq hx]; rfl, hB.trans (belowK_b (w := w) (Nat.le_refl _) W D _ _ (by have := hB0.size; omega) hK rfl rfl)⟩
    simp [results, Tryd.f6, go_sem, hq0, hq1, hq2, hq3]

theorem get_c (a av : Option Addr) (cap cv : Nat) (ts : List Ty) (x : Ev) (f : ByteArray) (h5 : ts.length ≤ 5) (hk5 : ∀ k, (ty ts k).2.length ≤ 5) (h20 : x.vs.length ≤ 20) (w : World) (hT : Typs w.heap.size w a ts) (hV : Vals w.heap.size w av x.vs) :
    Calls Tryd.prog 6 #[.agg #[.slice a ts.length cap], .agg #[.string x.ty.1, .int .i64 x.ts, .slice av x.vs.length cv], .string f] w fun e W' => e = .returned (gotV (getE ts x f)) ∧ Below w.heap.size w W' := by
  cases hp : placeN (tnames ts) x.ty.1 with
  | none =>
    have e : getE ts x f = none := by simp [getE, hp]
    rw [e]
    exact callsIn_wide.1 (get_none_in 1 (Nat.le_refl _) a av cap cv ts x.ty x.ts x.vs.length f h5 w hT hp)
  | some k =>
    have e : getE ts x f = getS f (slTo (ty ts k).2 x.vs (min (ty ts k).2.length x.vs.length)) := by simp [getE, hp]
    rw [e]
    exact callsIn_wide.1 (get_range_in 3 (Nat.le_refl _) a av cap cv ts x.ty x.ts x.vs f k h5 (hk5 k) h20 w hT hV hp _ (hide rfl))

end Go.Proofs.YthifciikmdnhaaaDoor
