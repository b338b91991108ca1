/-
  What the document's add answers (package pasternref1, layer 4): why a field may not be added: the same as the program's; for every type of at most 5 fields and every change, in whatever world; nothing that lay is turned.
  One element taken out of a row that a call owns, by appending what stands behind it to what stands ahead of it, in the row's own memory.
  A field added and dropped again, renamed and renamed back, as lists: the schema is as it was, and so are events.
  What the document's copied makes of a schema (package pasternref1, layer 4): the same types in new memory; for every schema of at most 5 types of at most 5 fields, in whatever world; nothing that lay is turned.
  A cell stored into a row that a call owns; a type of a schema that was copied, changed in its place.
  A schema behind a change of one of its types, as that type in its place: what stands in the list of its fields; and what a store of it into a copied schema leaves in memory.
  A schema that was copied, in memory: its types in a row, each type's fields in a row of its own, apart from the others; one type changed in its place.
  What becomes of an event's values behind a change, by the change's kind, as lists; and rows of values in memory, cut and changed.
-/
import Derived.Test.YtcjpaldijngnpaaGreatDoorChCopy
import Derived.Test.YtcjpaldijngnpaaGreatDoorRefusal
import Derived.Test.YtcjpaldijngnpaaGreatDoorRef
import Derived.Test.YtcjpaldijngnpaaGreatDoorCopy
import Derived.Test.YtcjpaldijngnpaaGreatDoorReadsZ
import Derived.Test.YtcjpaldijngnpaaGreatDoorPureEv
import Derived.Test.YtcjpaldijngnpaaGreatDoorApply
import Derived.Test.YtcjpaldijngnpaaGreatDoorRefAsk
namespace Go.Proofs.YtcjpaldijngnpaaGreatDoor
open Go.RowKit Go.Shelf

set_option maxRecDepth 100000 in
set_option maxHeartbeats 4000000 in
theorem refAdd_c (nm : ByteArray) (a : Option Addr) (cap : Nat) (fs : List Fd) (c : Ch) (h5 : fs.length ≤ 5) (w : World) :
    Calls Tryz.prog 66 #[.agg #[.string nm, .slice a fs.length cap], c.v, .int .i64 (placeI (fnames fs) c.f.1)] w fun e w' => e = .returned (.int .i64 (addE fs c)) ∧ Below w.heap.size w w' := by
  obtain ⟨k, t, f, o, dk, dn, ds⟩ := c
  have b0 : Below w.heap.size w ((w.alloc (.cells #[.string nm, .slice a fs.length cap] 69)).alloc (.cells #[.int .i64 k, .string t.1, .string f.1, .string o.1, .int .i64 dk, .int .i64 dn, .string ds.1] 42)) := ((Below.refl _ _).alloc (Nat.le_refl _) _).alloc (by simp) _
  obtain ⟨rv, hrv⟩ : ∃ rv, rv = addE fs ⟨k, t, f, o, dk, dn, ds⟩ := ⟨_, rfl⟩
  rw [← hrv]
  have xt := (Box.new w 69 #[.string nm, .slice a fs.length cap]).alloc (.cells #[.int .i64 k, .string t.1, .string f.1, .string o.1, .int .i64 dk, .int .i64 dn, .string ds.1] 42)
  have xc := Box.new (w.alloc (.cells #[.string nm, .slice a fs.length cap] 69)) 42 #[.int .i64 k, .string t.1, .string f.1, .string o.1, .int .i64 dk, .int .i64 dn, .string ds.1]
  rw [World.size_alloc] at xc
  obtain ⟨pl, hpl⟩ : ∃ pl, pl = placeI (fnames fs) f.1 := ⟨_, rfl⟩
  show Calls Tryz.prog 66 #[.agg #[.string nm, .slice a fs.length cap], .agg #[.int .i64 k, .string t.1, .string f.1, .string o.1, .int .i64 dk, .int .i64 dn, .string ds.1], .int .i64 (placeI (fnames fs) f.1)] w _
  rw [← hpl]
  have hH : (hasB fs f.1 = true ∧ 0 ≤ pl) ∨ (hasB fs f.1 = false ∧ ¬ 0 ≤ pl) := by
    rw [hpl]
    unfold hasB placeI
    cases placeN (fnames fs) f.1 with
    | none => exact .inr ⟨rfl, by decide⟩
    | some p => exact .inl ⟨rfl, by simp⟩
  clear hpl
  cases hN : nameB f.1
  · have hr := hide (show rv = 10 by rw [hrv]; simp [addE, hN])
    clear hrv hH
    go_enter Tryz.func66, Tryz.ntmps66
    go_wp2_with fail
    refine (refName_c _ _ f.2).mono ?_
    rintro e w1 ⟨rfl, rfl⟩
    rw [hN]
    go_wp2_with fail
    go_ret
    exact ⟨by rw [unhide hr]; rfl, b0⟩
  cases hI : isB dk dn ds.1
  · have hr := hide (show rv = 10 by rw [hrv]; simp [addE, hN, hI])
    clear hrv hH
    go_enter Tryz.func66, Tryz.ntmps66
    go_wp2_with fail
    refine (refName_c _ _ f.2).mono ?_
    rintro e w1 ⟨rfl, rfl⟩
    rw [hN]
    go_wp2_with fail
    refine (refIs_c _ _ _ _ ds.2).mono ?_
    rintro e w2 ⟨rfl, hb2⟩
    rw [hI]
    go_wp2_with fail
    go_ret
    exact ⟨by rw [unhide hr]; rfl, b0.trans (hb2.mono b0.size)⟩
  have hr := hide (show rv = if hasB fs f.1 then 13 else if 5 ≤ fs.length then 12 else 0 by rw [hrv]; simp [addE, hN, hI])
  clear hrv
  rcases hH with ⟨hH, hp⟩ | ⟨hH, hp⟩
  · replace hr := hide (show rv = 13 by rw [unhide hr, hH]; rfl)
    clear hH
    go_enter Tryz.func66, Tryz.ntmps66
    go_wp2_with fail
    refine (refName_c _ _ f.2).mono ?_
    rintro e w1 ⟨rfl, rfl⟩
    rw [hN]
    go_wp2_with fail
    refine (refIs_c _ _ _ _ ds.2).mono ?_
    rintro e w2 ⟨rfl, hb2⟩
    rw [hI]
    go_wp2_with fail
    go_ret
    exact ⟨by rw [unhide hr]; rfl, b0.trans (hb2.mono b0.size)⟩
  · by_cases hl : 5 ≤ fs.length
    · replace hr := hide (show rv = 12 by rw [unhide hr, hH]; simp [hl])
      have hl' : (5 : Int) ≤ fs.length := by omega
      clear hH hl
      go_enter Tryz.func66, Tryz.ntmps66
      go_wp2_with fail
      refine (refName_c _ _ f.2).mono ?_
      rintro e w1 ⟨rfl, rfl⟩
      rw [hN]
      go_wp2_with fail
      refine (refIs_c _ _ _ _ ds.2).mono ?_
      rintro e w2 ⟨rfl, hb2⟩
      rw [hI]
      have ht := (xt.on hb2 xt.lt).two.2
      go_wp2_with fail
      go_ret
      exact ⟨by rw [unhide hr]; rfl, b0.trans (hb2.mono b0.size)⟩
    · replace hr := hide (show rv = 0 by rw [unhide hr, hH]; simp [hl])
      have hl' : ¬ (5 : Int) ≤ fs.length := by omega
      clear hH hl
      go_enter Tryz.func66, Tryz.ntmps66
      go_wp2_with fail
      refine (refName_c _ _ f.2).mono ?_
      rintro e w1 ⟨rfl, rfl⟩
      rw [hN]
      go_wp2_with fail
      refine (refIs_c _ _ _ _ ds.2).mono ?_
      rintro e w2 ⟨rfl, hb2⟩
      rw [hI]
      have ht := (xt.on hb2 xt.lt).two.2
      go_wp2_with fail
      go_ret
      exact ⟨by rw [unhide hr]; rfl, b0.trans (hb2.mono b0.size)⟩

end Go.Proofs.YtcjpaldijngnpaaGreatDoor

namespace Go.Proofs.YtcjpaldijngnpaaGreatDoor
open Go.RowKit Go.Shelf

theorem run_append_shift {P : Program} (w : World) (base : Nat) (t ty e : TypeId) (i : TypeInfo) (size : Nat) (ht : P.underlying t = some (.slice e)) (hi : P.info? e = some i) (hsize : i.size = size) (g n cap : Nat) (xs : List Value)
    (h : w.ownsRow base e size (.slice (some ⟨g, 0, none⟩) n cap) n xs) (k : Nat) (hk : k < n) (ad : Addr) (had : ad = ⟨g, (k + 1) * size, none⟩ ∨ n = k + 1) (c2 : Nat) (h1 : ∀ u ∈ xs, u.oneCell' = true) :
    ∃ w', (Builtin.append_ #[t, t] ty #[.slice (some ⟨g, 0, none⟩) k cap, .slice (some ad) (n - (k + 1)) c2]).run P w = .ok (.slice (some ⟨g, 0, none⟩) (n - 1) cap) w' ∧
      w'.ownsRow base e size (.slice (some ⟨g, 0, none⟩) (n - 1) cap) (n - 1) (xs.take (k * size) ++ xs.drop ((k + 1) * size)) ∧ w.grownBy w' (some g) := by
  subst hsize
  have hcells := h.cells (g := g) rfl
  obtain ⟨hxl, h2⟩ := h
  rcases h2 with ⟨h0, _⟩ | ⟨g', cap', cur, h0, hb, hg, hnc, hcm, hcs, htake⟩
  · cases h0
  simp only [Value.slice.injEq, Option.some.injEq, Addr.mk.injEq, and_true, true_and] at h0
  obtain ⟨rfl, rfl⟩ := h0
  have hmul : (k + 1) * i.size ≤ n * i.size := Nat.mul_le_mul_right _ hk
  have hmul1 : (n - (k + 1)) * i.size = n * i.size - (k + 1) * i.size := Nat.sub_mul _ _ _
  have hmul2 : (n - 1) * i.size = n * i.size - 1 * i.size := Nat.sub_mul _ _ _
  have hk1 : (k + 1) * i.size = k * i.size + i.size := by rw [Nat.add_mul, Nat.one_mul]
  have hncs : n * i.size ≤ cap * i.size := Nat.mul_le_mul_right _ hnc
  have hnl : (xs.drop ((k + 1) * i.size)).length = (n - (k + 1)) * i.size := by rw [List.length_drop, hxl, hmul1]
  have hroom := run_append_room (P := P) w t ty e i ht hi g k cap cur hg ad (n - (k + 1)) c2 (xs.drop ((k + 1) * i.size)) hnl (fun j u hu => by
    rcases had with rfl | rfl
    case inr => rw [List.drop_of_length_le (by omega)] at hu; simp at hu
    rw [List.getElem?_drop] at hu
    have := hcells _ u hu
    rw [WideShapes.add_plain] at this ⊢
    rw [Nat.zero_add] at this
    exact this) (fun u hu => h1 u (List.mem_of_mem_drop hu)) (by omega) (by rw [hnl, hcs]; omega)
  rw [show k + (n - (k + 1)) = n - 1 by omega] at hroom
  have hcl : cur.toList.length = cap * i.size := by simpa using hcs
  have hheap := setRow_heap w g cur (cur.toList.take (k * i.size) ++ xs.drop ((k + 1) * i.size) ++ cur.toList.drop (k * i.size + (xs.drop ((k + 1) * i.size)).length)).toArray e (0, 0) hg
  have e1 : cur.toList.take (k * i.size) = xs.take (k * i.size) := by rw [← htake, List.take_take]; congr 1; omega
  refine ⟨_, hroom, ⟨?_, .inr ⟨g, cap, _, rfl, hb, hheap, by omega, hcm, ?_, ?_⟩⟩, ⟨rfl, rfl, rfl, by simp, fun q _ hq => setRow_other _ _ _ _ (fun e => hq (by rw [e]))⟩⟩
  · rw [List.length_append, List.length_take, hnl, hxl]; omega
  · simp only [List.size_toArray, List.length_append, List.length_take, List.length_drop, hcl, hxl]; omega
  · rw [List.toList_toArray, e1, List.take_append_of_le_length (by rw [List.length_append, List.length_take, hnl, hxl]; omega), List.take_of_length_le (by rw [List.length_append, List.length_take, hnl, hxl]; omega)]

/-- So, as one step of a region that draws its order. -/
theorem step_shift {P : Program} (w : World) {ops : Array Oper} {o : Oper} {a : Act} {K : Act → World → Prop} {Q : Exit → Act → World → Prop} {E : Prop} (hgd : o.guard = none) (s x : Operand) (t : TypeId)
    (ho : o.op = .call { callee := .builtin .append, args := #[s, x], argTypes := #[t, t] })
    (base : Nat) (e : TypeId) (i : TypeInfo) (size : Nat) (ht : P.underlying t = some (.slice e)) (hi : P.info? e = some i) (hsize : i.size = size) (g n cap : Nat) (xs : List Value)
    (hown : w.ownsRow base e size (.slice (some ⟨g, 0, none⟩) n cap) n xs) (k : Nat) (hk : k < n) (ad : Addr) (had : ad = ⟨g, (k + 1) * size, none⟩ ∨ n = k + 1) (c2 : Nat) (h1 : ∀ u ∈ xs, u.oneCell' = true)
    (hs : a.eval s = .slice (some ⟨g, 0, none⟩) k cap) (hx : a.eval x = .slice (some ad) (n - (k + 1)) c2)
    (h : ∀ w', w'.ownsRow base e size (.slice (some ⟨g, 0, none⟩) (n - 1) cap) (n - 1) (xs.take (k * size) ++ xs.drop ((k + 1) * size)) → w.grownBy w' (some g) → K (a.put o.dst (.slice (some ⟨g, 0, none⟩) (n - 1) cap)) w') :
    if Region.wanted o (yielded ops a.tmps) = true then Oper.wp P o a w K Q else E := by
  have hw : Region.wanted o (yielded ops a.tmps) = true := by simp [Region.wanted, hgd]
  rw [if_pos hw]
  obtain ⟨w', hr, h2, h3⟩ := run_append_shift (P := P) w base t o.type e i size ht hi hsize g n cap xs hown k hk ad had c2 h1
  unfold Oper.wp execOp
  simp only [ho, resolve, invoke, builtin, Sem.run_bind, Sem.run_pure, Result.andThen_ok, List.map_toArray, List.map_cons, List.map_nil, hs, hx, hr]
  exact h w' h2 h3

theorem run_app_none {P : Program} {w : World} (base : Nat) (t ty e : TypeId) (i : TypeInfo) (size : Nat) (ht : P.underlying t = some (.slice e)) (hi : P.info? e = some i)
    (v : Value) (n : Nat) (xs : List Value) (hown : w.ownsRow base e size v n xs) (c : Nat) :
    (Builtin.append_ #[t, t] ty #[v, .slice none 0 c]).run P w = .ok v w := by
  rcases hown.2 with ⟨rfl, rfl⟩ | ⟨g, cap, cur, rfl, _, _, hnc, _⟩
  · simp [Builtin.append_, run_underlying ht, sizeOf, typeInfo, hi, Builtin.lenOf, Builtin.firstCells]
  · simp [Builtin.append_, run_underlying ht, sizeOf, typeInfo, hi, Builtin.lenOf, Builtin.firstCells, hnc, storeCells]
/-- What is appended: elements that lie somewhere, or nothing. -/
def Lies (w : World) (xa : Option Addr) (m : Nat) (_c size : Nat) (news : List Value) : Prop := news.length = m * size ∧ ((∃ ad, xa = some ad ∧ ∀ j u, news[j]? = some u → w.cell? (ad.add j) = some u) ∨ (xa = none ∧ m = 0))
theorem Lies.on {w w' : World} {xa : Option Addr} {m c size : Nat} {news : List Value} (h : Lies w xa m c size news) (hb : Below w.heap.size w w') : Lies w' xa m c size news := by
  refine ⟨h.1, ?_⟩
  rcases h.2 with ⟨ad, e, hc⟩ | h
  · refine .inl ⟨ad, e, fun j u hu => (hb.cell ?_).trans (hc j u hu)⟩
    have := cell_lt (hc j u hu)
    exact this
  · exact .inr h
/-- An append of what lies somewhere to a row that a call owns, as one step of a region that draws its order. -/
theorem step_lies {P : Program} (w : World) {ops : Array Oper} {o : Oper} {a : Act} {K : Act → World → Prop} {Q : Exit → Act → World → Prop} {E : Prop} (hgd : o.guard = none) (s x : Operand) (t : TypeId)
    (ho : o.op = .call { callee := .builtin .append, args := #[s, x], argTypes := #[t, t] })
    (base : Nat) (e : TypeId) (i : TypeInfo) (z : Value) (size bytes : Nat) (ht : P.underlying t = some (.slice e)) (hi : P.info? e = some i) (hz : i.zero = some z)
    (hsize : i.size = size) (hby : i.bytes = bytes) (hzs : z.cells.size = size) (hsz : 0 < size)
    (v : Value) (n : Nat) (xs : List Value) (hs : a.eval s = v) (hown : w.ownsRow base e size v n xs)
    (xa : Option Addr) (m c : Nat) (news : List Value) (hx : a.eval x = .slice xa m c) (hl : Lies w xa m c size news) (h1 : ∀ u ∈ news, u.oneCell' = true)
    (h63 : n + m ≤ maxLen) (hbytes : (n + m) * bytes ≤ 140737488355328) (hbase : base ≤ w.heap.size)
    (h : ∀ v' w', w'.ownsRow base e size v' (n + m) (xs ++ news) → w.grownBy w' v.ownBlock → K (a.put o.dst v') w') :
    if Region.wanted o (yielded ops a.tmps) = true then Oper.wp P o a w K Q else E := by
  obtain ⟨hlen, ⟨ad, rfl, hc⟩ | ⟨rfl, rfl⟩⟩ := hl
  · exact step_own w hgd s x t ho base e i z size bytes ht hi hz hsize hby hzs hsz v n xs hs hown ad m c news hx hlen hc h1 h63 hbytes hbase (fun v' w' h2 h3 _ => h v' w' h2 h3)
  · obtain rfl : news = [] := by simpa using hlen
    have hw : Region.wanted o (yielded ops a.tmps) = true := by simp [Region.wanted, hgd]
    rw [if_pos hw]
    have hr := run_app_none (P := P) (w := w) base t o.type e i size ht hi v n xs hown c
    unfold Oper.wp execOp
    simp only [ho, resolve, invoke, builtin, Sem.run_bind, Sem.run_pure, Result.andThen_ok, List.map_toArray, List.map_cons, List.map_nil, hs, hx, hr]
    exact h v w (by simpa using hown) ⟨rfl, rfl, rfl, Nat.le_refl _, fun _ _ _ => rfl⟩

end Go.Proofs.YtcjpaldijngnpaaGreatDoor

namespace Go.Proofs.YtcjpaldijngnpaaGreatDoor
open Go.RowKit Go.Shelf

/-- The values behind a change, place by place. -/
theorem vNew_eq (nm : Txt) (c : Ch) (fs : List Fd) (vs : List Vl) : vNew nm c fs vs = ((List.range fs.length).filterMap fun j => (fchg (key nm == key c.t) c (fd fs j)).map fun g => (g.2, (vl vs j).2)) ++ if (key nm == key c.t) && decide (c.k = 1) then [(c.dk, c.dn, c.ds)] else [] := by
  unfold vNew fAll
  rw [List.map_append]
  congr 1
  · unfold fTo
    rw [List.map_filterMap]
    congr 1
    funext j
    cases fchg (key nm == key c.t) c (fd fs j) with
    | none => rfl
    | some g => simp [mV]
  · split <;> simp [mV]
theorem vs_range (vs : List Vl) : (List.range vs.length).map (vl vs) = vs := by
  refine List.ext_getElem (by simp) fun j h1 h2 => ?_
  simp [vl, h2]
theorem filterMap_all {β : Type} {n : Nat} {f : Nat → Option β} {g : Nat → β} (h : ∀ j, j < n → f j = some (g j)) : (List.range n).filterMap f = (List.range n).map g := by
  induction n with
  | zero => rfl
  | succ n ih =>
    rw [List.range_succ, List.filterMap_append, List.map_append, ih (fun j hj => h j (by omega))]
    simp [h n (by omega)]
/-- Where every field stays, with its kind, the values stay. -/
theorem vNew_keep {nm : Txt} {c : Ch} {fs : List Fd} {tm : Int} {vs : List Vl} (hE : EvOk fs tm vs) (h : ∀ f ∈ fs, ∃ g, fchg (key nm == key c.t) c f = some g ∧ g.2 = f.2) :
    vNew nm c fs vs = vs ++ if (key nm == key c.t) && decide (c.k = 1) then [(c.dk, c.dn, c.ds)] else [] := by
  rw [vNew_eq]
  congr 1
  rw [filterMap_all (g := vl vs), ← hE.len, vs_range]
  intro j hj
  obtain ⟨g, hg, hk⟩ := h _ (fd_mem hj)
  rw [hg, Option.map_some, hk, ← hE.kind j hj]
theorem fchg_not (c : Ch) (f : Fd) : fchg false c f = some f := by simp [fchg]

/-- A change of one field that is there already, turned back. -/
structure Undo (t : Txt) (c d : Ch) (fs : List Fd) : Prop where
  ct : c.t = t
  dt : d.t = t
  ck : c.k ≠ 5
  dk : d.k ≠ 5
  ref : formedB d = true ∧ (d.k ≠ 1 → atE (fNew t c fs) d = 0) ∧ d.k ≠ 1
  back : fNew t d (fNew t c fs) = fs
  vals : ∀ tm vs, EvOk fs tm vs → vNew t d (fNew t c fs) (vNew t c fs vs) = vs

theorem names_new (c : Ch) (ts : List Ty) (h5 : c.k ≠ 5) : tnames (tNew c ts) = tnames ts := by
  rw [tNew_map c ts h5]
  simp [tnames, chgT]

theorem undo_ref {ts : List Ty} {c d : Ch} {j : Nat} (hU : Undo (ty ts j).1 c d (ty ts j).2) (hp : placeN (tnames ts) (ty ts j).1.1 = some j) (hj : j < ts.length) : refE (tNew c ts) d = 0 := by
  unfold refE
  rw [hU.ref.1, names_new c ts hU.ck, hU.dt, hp]
  simp only [if_true]
  rw [if_neg hU.dk, if_neg hU.ref.2.2]
  have e : (ty (tNew c ts) j).2 = fNew (ty ts j).1 c (ty ts j).2 := by
    rw [tNew_map c ts hU.ck]
    simp [ty, hj, chgT]
  rw [e]
  exact hU.ref.2.1 hU.ref.2.2

theorem chgT_other {c : Ch} {t : Ty} (h : key t.1 ≠ key c.t) : chgT c t = t := by
  unfold chgT
  rw [fNew_no t.1 c t.2 (.inl (by simpa using h))]

theorem undo_types {ts : List Ty} {c d : Ch} {j : Nat} (hS : Sch ts) (hU : Undo (ty ts j).1 c d (ty ts j).2) (hj : j < ts.length) : tNew d (tNew c ts) = ts := by
  rw [tNew_map c ts hU.ck, tNew_map d _ hU.dk, List.map_map]
  have hpw := ((sch_iff ts).1 hS).2.2
  conv => rhs; rw [← List.map_id ts]
  refine List.map_congr_left fun u hu => ?_
  simp only [Function.comp, id]
  by_cases hk : key u.1 = key (ty ts j).1
  · have : u = ty ts j := key_uniq hpw hu (ty_mem hj) hk
    rw [this]
    unfold chgT
    simp only
    rw [hU.back]
  · rw [chgT_other (t := u) (by rw [hU.ct]; exact hk), chgT_other (t := u) (by rw [hU.dt]; exact hk)]

theorem undo_event {ts : List Ty} {c d : Ch} {j : Nat} {x : Ev} (hS : Sch ts) (hU : Undo (ty ts j).1 c d (ty ts j).2) (hj : j < ts.length) (h0 : refE ts c = 0) (h1 : refE (tNew c ts) d = 0) (hi : isE ts x = 0) : movE (tNew c ts) d (movE ts c x) = x := by
  obtain ⟨u, hf, hE⟩ := isE_found hi
  have e1 := movE_find ts c x u hf h0 hi
  have hi2 := isE_new hS h0 hi
  have hf2 := find_moved h0 hf
  rw [movE_find (tNew c ts) d (movE ts c x) (chgT c u) (by rw [e1]; exact hf2) h1 hi2, e1]
  simp only
  have : vNew (chgT c u).1 d (chgT c u).2 (vNew u.1 c u.2 x.vs) = x.vs := by
    by_cases hk : key u.1 = key (ty ts j).1
    · have : u = ty ts j := key_uniq ((sch_iff ts).1 hS).2.2 (findT_mem hf).1 (ty_mem hj) hk
      subst this
      exact hU.vals x.ts x.vs hE
    · have hc : (key u.1 == key c.t) = false := by rw [hU.ct]; simpa using hk
      have hd : (key u.1 == key d.t) = false := by rw [hU.dt]; simpa using hk
      rw [chgT_other (t := u) (by rw [hU.ct]; exact hk)]
      have e2 : vNew u.1 c u.2 x.vs = x.vs := by
        rw [vNew_keep hE (fun f _ => ⟨f, by rw [hc]; exact fchg_not c f, rfl⟩), hc]; simp
      rw [e2, vNew_keep hE (fun f _ => ⟨f, by rw [hd]; exact fchg_not d f, rfl⟩), hd]; simp
  rw [this]

/-- The name 'fresh', and the text 'd'. -/
def tFresh : Txt := ⟨⟨#[102, 114, 101, 115, 104]⟩, by unfold maxLen; decide⟩
def tD : Txt := ⟨⟨#[100]⟩, by unfold maxLen; decide⟩
abbrev cAdd (t : Txt) : Ch := ⟨1, t, tFresh, noTxt, 2, 0, tD⟩
abbrev cDrop (t : Txt) : Ch := ⟨2, t, tFresh, noTxt, 0, 0, noTxt⟩
abbrev cRen (t f : Txt) : Ch := ⟨3, t, f, tFresh, 0, 0, noTxt⟩
abbrev cBack (t f : Txt) : Ch := ⟨3, t, tFresh, f, 0, 0, noTxt⟩
theorem name_fresh : nameB tFresh.1 = true := by decide
theorem no_noTxt : noT ⟨#[]⟩ = true := by unfold noT; rw [ByteArray.toList_eq]; rfl
theorem filterMap_same {g : Fd → Option Fd} (l : List Fd) (h : ∀ f ∈ l, g f = some f) : l.filterMap g = l := by
  induction l with
  | nil => rfl
  | cons a l ih => rw [List.filterMap_cons, h a (List.mem_cons_self ..), ih (fun f hf => h f (List.mem_cons_of_mem _ hf))]
theorem isB_d : isB 2 0 tD.1 = true := by decide

theorem undo_add {t : Txt} {fs : List Fd} (hn : nameB t.1 = true) (hG : Good (cAdd t) fs) : Undo t (cAdd t) (cDrop t) fs := by
  have hfr := (hG.add rfl).2.2.1
  have hm : (key t == key t) = true := by simp
  have e1 : fNew t (cAdd t) fs = fs ++ [(tFresh, 2)] := by
    rw [fNew_eq]
    have : fchg (key t == key (cAdd t).t) (cAdd t) = some := by funext f; exact fchg_no _ (cAdd t) (by simp) (by simp) (by simp) f
    rw [this, List.filterMap_some]; simp
  have hkeep : ∀ f ∈ fs, fchg (key t == key (cDrop t).t) (cDrop t) f = some f := fun f hf => by
    unfold fchg
    rw [if_neg (by simp; exact hfr f hf)]
  refine ⟨rfl, rfl, by simp, by simp, ⟨?_, fun _ => ?_, by simp⟩, ?_, fun tm vs hE => ?_⟩
  · simp [formedB, hn, bareB, noD, no_noTxt]
  · rw [e1]
    have : placeN (fnames (fs ++ [(tFresh, 2)])) tFresh.1 = some fs.length := by
      refine placeN_of (by simp [fnames]) (by simp [fnames]) fun i hi => ?_
      have hil : i < fs.length := hi
      simp only [fnames, List.getElem_map, List.getElem_append_left hil]
      exact hfr _ (List.getElem_mem _)
    unfold atE
    simp only
    rw [this]
    simp
  · rw [e1, fNew_eq, List.filterMap_append]
    have h1 : fs.filterMap (fchg (key t == key (cDrop t).t) (cDrop t)) = fs := by
      exact filterMap_same fs hkeep
    rw [h1]
    simp [fchg]
  · have hv : vNew t (cAdd t) fs vs = vs ++ [(2, 0, tD)] := by
      rw [vNew_keep hE (fun f _ => ⟨f, fchg_no _ (cAdd t) (by simp) (by simp) (by simp) f, rfl⟩)]
      simp
    rw [hv, e1, vNew_eq]
    have hlen := hE.len
    rw [List.length_append, List.length_singleton, List.range_succ, List.filterMap_append]
    have hlast : fchg (key t == key (cDrop t).t) (cDrop t) (fd (fs ++ [(tFresh, 2)]) fs.length) = none := by
      have : fd (fs ++ [(tFresh, 2)]) fs.length = (tFresh, 2) := by simp [fd]
      rw [this]
      simp [fchg]
    rw [filterMap_all (g := vl vs)]
    · simp only [List.filterMap_cons, List.filterMap_nil, hlast, Option.map_none]
      rw [← hlen, vs_range]
      simp
    · intro i hi
      have ef : fd (fs ++ [(tFresh, 2)]) i = fd fs i := by simp [fd, List.getElem?_append_left hi]
      have ev : vl (vs ++ [(2, 0, tD)]) i = vl vs i := by simp [vl, List.getElem?_append_left (show i < vs.length by omega)]
      rw [ef, ev, hkeep _ (fd_mem hi), Option.map_some, ← hE.kind i hi]

theorem undo_ren {t f0 : Txt} {fs : List Fd} (hn : nameB t.1 = true) (hF : SchF fs) (hG : Good (cRen t f0) fs) (h0 : ∃ f ∈ fs, f.1 = f0) : Undo t (cRen t f0) (cBack t f0) fs := by
  have hfr := (hG.ren rfl).2
  simp only at hfr
  have hm : (key t == key t) = true := by simp
  have hc : ∀ f : Fd, fchg (key t == key (cRen t f0).t) (cRen t f0) f = some (if key f.1 = key f0 then (tFresh, f.2) else f) := fun f => by
    unfold fchg
    by_cases h : key f.1 = key f0
    · rw [if_pos (by simp; exact h), if_pos h]; simp
    · rw [if_neg (by simp; exact h), if_neg h]
  have hd : ∀ f : Fd, fchg (key t == key (cBack t f0).t) (cBack t f0) f = some (if key f.1 = key tFresh then (f0, f.2) else f) := fun f => by
    unfold fchg
    by_cases h : key f.1 = key tFresh
    · rw [if_pos (by simp; exact h), if_pos h]; simp
    · rw [if_neg (by simp; exact h), if_neg h]
  have e1 : fNew t (cRen t f0) fs = fs.map fun f => if key f.1 = key f0 then (tFresh, f.2) else f := by
    rw [fNew_eq, show fchg (key t == key (cRen t f0).t) (cRen t f0) = fun f => some (if key f.1 = key f0 then (tFresh, f.2) else f) from funext hc]
    simp
  obtain ⟨f1, hf1, hf1e⟩ := h0
  have hf0n : nameB f0.1 = true := by rw [← hf1e]; exact (((schF_iff fs).1 hF).2.1 f1 hf1).1
  have hne : key f0 ≠ key tFresh := by rw [← hf1e]; exact hfr f1 hf1
  refine ⟨rfl, rfl, by simp, by simp, ⟨?_, fun _ => ?_, by simp⟩, ?_, fun tm vs hE => ?_⟩
  · simp [formedB, hn, bareB, noD, no_noTxt]
  · rw [e1]
    have hth : ∃ p, placeN (fnames (fs.map fun f => if key f.1 = key f0 then (tFresh, f.2) else f)) tFresh.1 = some p := by
      cases hp : placeN (fnames (fs.map fun f => if key f.1 = key f0 then (tFresh, f.2) else f)) tFresh.1 with
      | some p => exact ⟨p, rfl⟩
      | none =>
        have := placeN_none.1 hp tFresh (by
          simp only [fnames, List.map_map, List.mem_map]
          exact ⟨f1, hf1, by simp [hf1e]⟩)
        exact (this rfl).elim
    obtain ⟨p, hp⟩ := hth
    have hno : hasB (fs.map fun f => if key f.1 = key f0 then (tFresh, f.2) else f) f0.1 = false := by
      rw [hasB_iff]
      intro g hg
      obtain ⟨f, hf, rfl⟩ := List.mem_map.1 hg
      by_cases h : key f.1 = key f0
      · rw [if_pos h]; exact fun e => hne e.symm
      · rw [if_neg h]; exact h
    unfold atE
    simp only
    rw [hp]
    simp [hf0n, hno]
  · rw [e1, fNew_eq, show fchg (key t == key (cBack t f0).t) (cBack t f0) = fun f => some (if key f.1 = key tFresh then (f0, f.2) else f) from funext hd]
    simp only [List.filterMap_eq_map']
    rw [List.map_map]
    have : fs.map ((fun f : Fd => if key f.1 = key tFresh then (f0, f.2) else f) ∘ fun f => if key f.1 = key f0 then (tFresh, f.2) else f) = fs := by
      conv => rhs; rw [← List.map_id fs]
      refine List.map_congr_left fun f hf => ?_
      simp only [Function.comp, id]
      by_cases h : key f.1 = key f0
      · rw [if_pos h, if_pos rfl]
        have : f.1 = f0 := txt_ext h
        rw [← this]
      · rw [if_neg h, if_neg (hfr f hf)]
    rw [this]
    simp
  · have hv : vNew t (cRen t f0) fs vs = vs := by
      rw [vNew_keep hE (fun f _ => ⟨_, hc f, by split <;> rfl⟩)]
      simp
    have hE2 : EvOk (fNew t (cRen t f0) fs) tm vs := by
      refine ⟨hE.tm, by rw [hE.len, e1]; simp, hE.val, fun i hi => ?_⟩
      have hi' : i < fs.length := by rw [e1] at hi; simpa using hi
      rw [hE.kind i hi', e1]
      have : fd (fs.map fun f => if key f.1 = key f0 then (tFresh, f.2) else f) i = if key (fd fs i).1 = key f0 then (tFresh, (fd fs i).2) else fd fs i := by simp [fd, hi']
      rw [this]
      split <;> rfl
    rw [hv, vNew_keep hE2 (fun f _ => ⟨_, hd f, by split <;> rfl⟩)]
    simp

theorem place_self {ts : List Ty} (hS : Sch ts) {j : Nat} (hj : j < ts.length) : placeN (tnames ts) (ty ts j).1.1 = some j := by
  have hpw := ((sch_iff ts).1 hS).2.2
  refine placeN_of (by rw [tnames_len]; exact hj) (by simp [tnames, ty, hj]) fun i hi => ?_
  rw [List.pairwise_iff_getElem] at hpw
  have := hpw i j (by omega) hj hi
  simp only [tnames, List.getElem_map]
  intro e
  rw [show key ts[i].1 = key ts[j].1 by rw [show key ts[i].1 = _ from e]; simp [ty, hj]] at this
  exact List.lt_irrefl _ this

/-- What the two changes of EvolveRound come to. -/
theorem round_add {ts : List Ty} (hS : Sch ts) {j : Nat} (hj : j < ts.length) :
    (refE ts (cAdd (ty ts j).1) ≠ 0 → hasB (ty ts j).2 tFresh.1 = true ∨ (ty ts j).2.length = 5) ∧
    (refE ts (cAdd (ty ts j).1) = 0 → Undo (ty ts j).1 (cAdd (ty ts j).1) (cDrop (ty ts j).1) (ty ts j).2) := by
  have hp := place_self hS hj
  obtain ⟨hn, hF⟩ := ((sch_iff ts).1 hS).2.1 _ (ty_mem hj)
  refine ⟨fun h => ?_, fun h => undo_add hn (good_of hS h hp).2⟩
  cases hH : hasB (ty ts j).2 tFresh.1
  · right
    apply Decidable.byContradiction
    intro hl
    apply h
    have hfo : formedB (cAdd (ty ts j).1) = true := by simp [formedB, hn, bareB, no_noTxt]
    unfold refE
    rw [hfo]
    simp only [if_true]
    rw [hp]
    simp only
    have hl5 : ¬ 5 ≤ (ty ts j).2.length := by have := hF.1; omega
    simp [addE, name_fresh, isB_d, hH, hl5]
  · exact .inl rfl
theorem round_ren {ts : List Ty} (hS : Sch ts) {j : Nat} (hj : j < ts.length) (h0 : 0 < (ty ts j).2.length) :
    (refE ts (cRen (ty ts j).1 (fd (ty ts j).2 0).1) ≠ 0 → hasB (ty ts j).2 tFresh.1 = true) ∧
    (refE ts (cRen (ty ts j).1 (fd (ty ts j).2 0).1) = 0 → Undo (ty ts j).1 (cRen (ty ts j).1 (fd (ty ts j).2 0).1) (cBack (ty ts j).1 (fd (ty ts j).2 0).1) (ty ts j).2) := by
  have hp := place_self hS hj
  obtain ⟨hn, hF⟩ := ((sch_iff ts).1 hS).2.1 _ (ty_mem hj)
  refine ⟨fun h => ?_, fun h => undo_ren hn hF (good_of hS h hp).2 ⟨_, fd_mem h0, rfl⟩⟩
  cases hH : hasB (ty ts j).2 tFresh.1
  · exfalso
    apply h
    have hfo : formedB (cRen (ty ts j).1 (fd (ty ts j).2 0).1) = true := by simp [formedB, hn, bareB, noD, no_noTxt]
    unfold refE
    rw [hfo]
    simp only [if_true]
    rw [hp]
    have h1 : placeN (fnames (ty ts j).2) (fd (ty ts j).2 0).1.1 = some 0 := by
      have := (hF.2 0 h0).2.2.2
      unfold placeI at this
      cases hq : placeN (fnames (ty ts j).2) (fd (ty ts j).2 0).1.1 with
      | none => rw [hq] at this; simp at this
      | some q => rw [hq] at this; simp only at this; congr 1; omega
    simp [atE, h1, name_fresh, hH]
  · rfl

end Go.Proofs.YtcjpaldijngnpaaGreatDoor

namespace Go.Proofs.YtcjpaldijngnpaaGreatDoor
open Go.RowKit Go.Shelf

theorem run_append_none (t ty e : TypeId) (i : TypeInfo) (z : Value) (ht : Tryz.prog.underlying t = some (.slice e)) (hi : Tryz.prog.info? e = some i) (hz : i.zero = some z) (c : Nat) (w : World) :
    (Builtin.append_ #[t, t] ty #[.slice none 0 0, .slice none 0 c]).run Tryz.prog w = .ok (.slice none 0 0) w := by
  simp [Builtin.append_, run_underlying ht, sizeOf, typeInfo, zeroValue, hi, hz, Builtin.lenOf, Question.forced, run_firstCells_none]

/-- Nothing appended to nothing, as one step of a region that draws its order. -/
theorem step_none (w : World) {ops : Array Oper} {o : Oper} {a : Act} {K : Act → World → Prop} {Q : Exit → Act → World → Prop} {E : Prop} (hgd : o.guard = none) (s x : Operand) (t : TypeId)
    (ho : o.op = .call { callee := .builtin .append, args := #[s, x], argTypes := #[t, t] }) (e : TypeId) (i : TypeInfo) (z : Value) (ht : Tryz.prog.underlying t = some (.slice e)) (hi : Tryz.prog.info? e = some i) (hz : i.zero = some z)
    (c : Nat) (hs : a.eval s = .slice none 0 0) (hx : a.eval x = .slice none 0 c) (h : K (a.put o.dst (.slice none 0 0)) w) :
    if Region.wanted o (yielded ops a.tmps) = true then Oper.wp Tryz.prog o a w K Q else E := by
  have hw : Region.wanted o (yielded ops a.tmps) = true := by simp [Region.wanted, hgd]
  rw [if_pos hw]
  have hr := run_append_none t o.type e i z ht hi hz c w
  unfold Oper.wp execOp
  simp only [ho, resolve, invoke, builtin, Sem.run_bind, Sem.run_pure, Result.andThen_ok, List.map_toArray, List.map_cons, List.map_nil, hs, hx, hr]
  exact h

/-- Where a type's fields lie. -/
def Tw.blk (x : Tw) : Option Nat := (Value.slice x.2.1 x.1.2.length x.2.2).ownBlock
/-- The fields of the one don't lie where those of the other do. -/
def Apart (x y : Tw) : Prop := ∀ g, x.blk = some g → y.blk ≠ some g
theorem apart_snoc {base : Nat} {W : World} {xs : List Tw} {y : Tw} (h : xs.Pairwise Apart) (ho : ∀ x ∈ xs, Tw.own base W x) (hy : y.blk = none ∨ ∃ g, y.blk = some g ∧ W.heap.size ≤ g) : (xs ++ [y]).Pairwise Apart := by
  refine List.pairwise_append.2 ⟨h, List.pairwise_singleton _ _, fun x hx z hz => ?_⟩
  simp only [List.mem_singleton] at hz
  subst hz
  intro g hg
  rcases hy with hy | ⟨g', hy, hle⟩
  · rw [hy]; simp
  · rw [hy]
    intro e
    obtain ⟨_, cur, h1⟩ := owns_lt (ho x hx) hg
    have := (Array.getElem?_eq_some_iff.1 h1).1
    cases e
    omega

set_option maxRecDepth 100000 in
set_option maxHeartbeats 8000000 in
theorem copied_c (a : Option Addr) (cap : Nat) (ts : List Ty) (h5 : ts.length ≤ 5) (hk5 : ∀ k, (ty ts k).2.length ≤ 5) (w : World) (hT : Typs w.heap.size w a ts) :
    Calls Tryz.prog 29 #[.agg #[.slice a ts.length cap]] w fun e W' => ∃ (v : Value) (xs : List Tw), e = .returned (.agg #[v]) ∧ (xs.map (·.1) = ts ∧ ∀ x ∈ xs, Tw.own w.heap.size W' x) ∧ W'.ownsRow w.heap.size 69 2 v xs.length (newsT xs) ∧ Below w.heap.size w W' ∧ xs.Pairwise Apart := by
  obtain ⟨i0, hi, hz0, hz1, hz2⟩ := info_parts infoTy
  obtain ⟨j0, hj, hy0, hy1, hy2⟩ := info_parts infoFd
  have hmx : Tryz.prog.follows .mixedOrders = true := by kernel_rfl
  obtain ⟨W0, hW0⟩ : ∃ W0, W0 = ((w.alloc (.cells #[.slice a ts.length cap] 24)).alloc (.cells #[.slice none 0 0] 24)).alloc (.cells #[.slice none 0 0] 24) := ⟨_, rfl⟩
  have e0 : W0.heap.size = w.heap.size + 3 := by rw [hW0]; simp
  have b0 : Below w.heap.size w W0 := by rw [hW0]; exact (((Below.refl _ _).alloc (Nat.le_refl _) _).alloc (by simp) _).alloc (by simp; omega) _
  have x1 : Box W0 w.heap.size 24 #[.slice a ts.length cap] := by
    rw [hW0]; exact ((Box.new w 24 #[.slice a ts.length cap]).alloc _).alloc _
  have x2 : Box W0 (w.heap.size + 1) 24 #[.slice none 0 0] := by
    have := Box.new (w.alloc (.cells #[.slice a ts.length cap] 24)) 24 #[.slice none 0 0]
    simp only [World.size_alloc] at this
    rw [hW0]; exact this.alloc _
  have x3 : Box W0 (w.heap.size + 1 + 1) 24 #[.slice none 0 0] := by
    have := Box.new ((w.alloc (.cells #[.slice a ts.length cap] 24)).alloc (.cells #[.slice none 0 0] 24)) 24 #[.slice none 0 0]
    simp only [World.size_alloc] at this
    rw [hW0]; exact this
  have hW0' := hide hW0
  clear hW0
  go_enter Tryz.func29, Tryz.ntmps29
  go_wp2
  go_loopw [4] (fun i wr => ∃ (k : Nat) (xs : List Tw) (v : Value), k ≤ ts.length ∧ i = .int .i64 k ∧ Hid (xs.map (·.1) = ts.take k ∧ ∀ x ∈ xs, Tw.own (w.heap.size + 3) wr x) ∧ Hid (wr.ownsRow (w.heap.size + 3) 69 2 v k (newsT xs)) ∧ Box wr (w.heap.size + 1 + 1) 24 #[v] ∧ Box wr w.heap.size 24 #[.slice a ts.length cap] ∧ Box wr (w.heap.size + 1) 24 #[.slice none 0 0] ∧ Below w.heap.size w wr ∧ w.heap.size + 3 ≤ wr.heap.size ∧ Hid (xs.Pairwise Apart)) (fun i _ => ts.length - (intOf i).toNat)
  case atStart =>
    rw [← unhide hW0']
    exact ⟨0, [], .slice none 0 0, Nat.zero_le _, rfl, hide ⟨rfl, fun x hx => by simp at hx⟩, hide (World.ownsRow_nil _ _ _ _), x3, x1, x2, b0, by omega, hide List.Pairwise.nil⟩
  case round =>
    obtain ⟨k, xs, v, hk, rfl, hxs, hrow, y3, y1, y2, bw, hsz, hap⟩ := hrel
    clear x1 x2 x3 hW0' b0 e0
    have hs1 := y1.one.1
    by_cases hlt : k < ts.length
    · have T1 := hT.below bw
      obtain ⟨b, off, ha, hcn, a', c', hcf, hF⟩ := T1.at k hlt
      have hbS : b < w.heap.size := by
        rcases T1 with h | ⟨b', off', e', hb', _⟩
        · rw [h] at hlt; simp at hlt
        · rw [ha] at e'; cases e'; exact hb'
      subst ha
      have hf5 := hk5 k
      obtain ⟨⟨nm, fs⟩, ht⟩ : ∃ tt, tt = ty ts k := ⟨_, rfl⟩
      rw [← ht] at hcn hcf hF hf5
      simp only at hcn hcf hF hf5
      have hsucc := hide (show ts.take (k + 1) = ts.take k ++ [(nm, fs)] by rw [ht, List.take_succ_eq_append_getElem hlt]; simp [ty, hlt])
      have hlen : xs.length = k := by have := congrArg List.length (unhide hxs).1; simp at this; omega
      replace hlen := hide hlen
      clear ht T1
      have bD : Below wr.heap.size wr wr.drew := (Below.refl _ _).drew
      have cW : Box wr w.heap.size 24 #[.slice (some ⟨b, off, none⟩) ts.length cap] ∧ Box wr (w.heap.size + 1 + 1) 24 #[v] ∧ wr.cell? ⟨b, off + k * 2, none⟩ = some (.string nm.1) ∧ wr.cell? ⟨b, off + k * 2 + 1, none⟩ = some (.slice a' fs.length c') := ⟨y1, y3, hcn, hcf⟩
      have cD : Box wr.drew w.heap.size 24 #[.slice (some ⟨b, off, none⟩) ts.length cap] ∧ Box wr.drew (w.heap.size + 1 + 1) 24 #[v] ∧ wr.drew.cell? ⟨b, off + k * 2, none⟩ = some (.string nm.1) ∧ wr.drew.cell? ⟨b, off + k * 2 + 1, none⟩ = some (.slice a' fs.length c') := ⟨cW.1.on bD cW.1.lt, cW.2.1.on bD cW.2.1.lt, (bD.cell (p := ⟨b, off + k * 2, none⟩) (cell_lt cW.2.2.1)).trans cW.2.2.1, (bD.cell (p := ⟨b, off + k * 2 + 1, none⟩) (cell_lt cW.2.2.2)).trans cW.2.2.2⟩
      have hvs : ∃ av nv cv, v = .slice av nv cv := by
        rcases (unhide hrow).2 with ⟨h, _⟩ | ⟨g, cc, _, h, _⟩ <;> exact ⟨_, _, _, h⟩
      obtain ⟨av, nv, cv, rfl⟩ := hvs
      clear hcn hcf
      go_wp2_with fail
      clear hs1
      refine wp_region_any hmx (wpAny_of_Z (z := 19) (C := fun w' => Box w' w.heap.size 24 #[.slice (some ⟨b, off, none⟩) ts.length cap] ∧ Box w' (w.heap.size + 1 + 1) 24 #[.slice av nv cv] ∧ w'.cell? ⟨b, off + k * 2, none⟩ = some (.string nm.1) ∧ w'.cell? ⟨b, off + k * 2 + 1, none⟩ = some (.slice a' fs.length c')) _ _ _ _ ?_)
      refine wpAnyZ_reads 0 cD (by kernel_rfl) (by kernel_rfl) (by kernel_rfl) (by kernel_rfl) (fun d _ _ _ _ h => by cases d <;> exact h) (fun oi ho K hK => ?_)
      simp only [List.getElem?_toArray, List.getElem?_cons_zero, Option.some.injEq] at ho
      subst ho
      rw [if_pos (by kernel_rfl)]
      refine ⟨.pointer (some ⟨w.heap.size + 1 + 1, 0, none⟩), fun w' hw' => ?_, hK _ ?_⟩
      · obtain ⟨hx1, hx3, hxn, hxf⟩ := hw'
        have hs := hx1.one.1
        have ho := hx3.one.1
        go_simp
      clear hK K
      refine wpAnyZ_reads 1 cD (by kernel_rfl) (by kernel_rfl) (by kernel_rfl) (by kernel_rfl) (fun d _ _ _ _ h => by cases d <;> exact h) (fun oi ho K hK => ?_)
      simp only [List.getElem?_toArray, List.getElem?_cons_succ, List.getElem?_cons_zero, Option.some.injEq] at ho
      subst ho
      rw [if_pos (by kernel_rfl)]
      refine ⟨.slice av nv cv, fun w' hw' => ?_, hK _ ?_⟩
      · obtain ⟨hx1, hx3, hxn, hxf⟩ := hw'
        have hs := hx1.one.1
        have ho := hx3.one.1
        go_simp
      clear hK K
      refine wpAnyZ_reads 2 cD (by kernel_rfl) (by kernel_rfl) (by kernel_rfl) (by kernel_rfl) (fun d _ _ _ _ h => by cases d <;> exact h) (fun oi ho K hK => ?_)
      simp only [List.getElem?_toArray, List.getElem?_cons_succ, List.getElem?_cons_zero, Option.some.injEq] at ho
      subst ho
      rw [if_pos (by kernel_rfl)]
      refine ⟨.pointer (some ⟨w.heap.size, 0, none⟩), fun w' hw' => ?_, hK _ ?_⟩
      · obtain ⟨hx1, hx3, hxn, hxf⟩ := hw'
        have hs := hx1.one.1
        have ho := hx3.one.1
        go_simp
      clear hK K
      refine wpAnyZ_reads 3 cD (by kernel_rfl) (by kernel_rfl) (by kernel_rfl) (by kernel_rfl) (fun d _ _ _ _ h => by cases d <;> exact h) (fun oi ho K hK => ?_)
      simp only [List.getElem?_toArray, List.getElem?_cons_succ, List.getElem?_cons_zero, Option.some.injEq] at ho
      subst ho
      rw [if_pos (by kernel_rfl)]
      refine ⟨.slice (some ⟨b, off, none⟩) ts.length cap, fun w' hw' => ?_, hK _ ?_⟩
      · obtain ⟨hx1, hx3, hxn, hxf⟩ := hw'
        have hs := hx1.one.1
        have ho := hx3.one.1
        go_simp
      clear hK K
      refine wpAnyZ_reads 4 cD (by kernel_rfl) (by kernel_rfl) (by kernel_rfl) (by kernel_rfl) (fun d _ _ _ _ h => by cases d <;> exact h) (fun oi ho K hK => ?_)
      simp only [List.getElem?_toArray, List.getElem?_cons_succ, List.getElem?_cons_zero, Option.some.injEq] at ho
      subst ho
      rw [if_pos (by kernel_rfl)]
      refine ⟨.int .i64 k, fun w' hw' => ?_, hK _ ?_⟩
      · obtain ⟨hx1, hx3, hxn, hxf⟩ := hw'
        have hs := hx1.one.1
        have ho := hx3.one.1
        go_simp
      clear hK K
      refine wpAnyZ_reads 5 cD (by kernel_rfl) (by kernel_rfl) (by kernel_rfl) (by kernel_rfl) (fun d _ _ _ _ h => by cases d <;> exact h) (fun oi ho K hK => ?_)
      simp only [List.getElem?_toArray, List.getElem?_cons_succ, List.getElem?_cons_zero, Option.some.injEq] at ho
      subst ho
      rw [if_pos (by kernel_rfl)]
      refine ⟨.pointer (some ⟨b, off + k * 2, none⟩), fun w' hw' => ?_, hK _ ?_⟩
      · obtain ⟨hx1, hx3, hxn, hxf⟩ := hw'
        have hs := hx1.one.1
        have ho := hx3.one.1
        go_simp
      clear hK K
      refine wpAnyZ_reads 6 cD (by kernel_rfl) (by kernel_rfl) (by kernel_rfl) (by kernel_rfl) (fun d _ _ _ _ h => by cases d <;> exact h) (fun oi ho K hK => ?_)
      simp only [List.getElem?_toArray, List.getElem?_cons_succ, List.getElem?_cons_zero, Option.some.injEq] at ho
      subst ho
      rw [if_pos (by kernel_rfl)]
      refine ⟨.pointer (some ⟨b, off + k * 2, none⟩), fun w' hw' => ?_, hK _ ?_⟩
      · obtain ⟨hx1, hx3, hxn, hxf⟩ := hw'
        have hs := hx1.one.1
        have ho := hx3.one.1
        go_simp
      clear hK K
      refine wpAnyZ_reads 7 cD (by kernel_rfl) (by kernel_rfl) (by kernel_rfl) (by kernel_rfl) (fun d _ _ _ _ h => by cases d <;> exact h) (fun oi ho K hK => ?_)
      simp only [List.getElem?_toArray, List.getElem?_cons_succ, List.getElem?_cons_zero, Option.some.injEq] at ho
      subst ho
      rw [if_pos (by kernel_rfl)]
      refine ⟨.string nm.1, fun w' hw' => ?_, hK _ ?_⟩
      · obtain ⟨hx1, hx3, hxn, hxf⟩ := hw'
        have hs := hx1.one.1
        have ho := hx3.one.1
        go_simp
      clear hK K
      refine wpAnyZ_reads 8 cD (by kernel_rfl) (by kernel_rfl) (by kernel_rfl) (by kernel_rfl) (fun d _ _ _ _ h => by cases d <;> exact h) (fun oi ho K hK => ?_)
      simp only [List.getElem?_toArray, List.getElem?_cons_succ, List.getElem?_cons_zero, Option.some.injEq] at ho
      subst ho
      rw [if_pos (by kernel_rfl)]
      refine ⟨.pointer (some ⟨w.heap.size, 0, none⟩), fun w' hw' => ?_, hK _ ?_⟩
      · obtain ⟨hx1, hx3, hxn, hxf⟩ := hw'
        have hs := hx1.one.1
        have ho := hx3.one.1
        go_simp
      clear hK K
      refine wpAnyZ_reads 9 cD (by kernel_rfl) (by kernel_rfl) (by kernel_rfl) (by kernel_rfl) (fun d _ _ _ _ h => by cases d <;> exact h) (fun oi ho K hK => ?_)
      simp only [List.getElem?_toArray, List.getElem?_cons_succ, List.getElem?_cons_zero, Option.some.injEq] at ho
      subst ho
      rw [if_pos (by kernel_rfl)]
      refine ⟨.slice (some ⟨b, off, none⟩) ts.length cap, fun w' hw' => ?_, hK _ ?_⟩
      · obtain ⟨hx1, hx3, hxn, hxf⟩ := hw'
        have hs := hx1.one.1
        have ho := hx3.one.1
        go_simp
      clear hK K
      refine wpAnyZ_reads 10 cD (by kernel_rfl) (by kernel_rfl) (by kernel_rfl) (by kernel_rfl) (fun d _ _ _ _ h => by cases d <;> exact h) (fun oi ho K hK => ?_)
      simp only [List.getElem?_toArray, List.getElem?_cons_succ, List.getElem?_cons_zero, Option.some.injEq] at ho
      subst ho
      rw [if_pos (by kernel_rfl)]
      refine ⟨.int .i64 k, fun w' hw' => ?_, hK _ ?_⟩
      · obtain ⟨hx1, hx3, hxn, hxf⟩ := hw'
        have hs := hx1.one.1
        have ho := hx3.one.1
        go_simp
      clear hK K
      refine wpAnyZ_reads 11 cD (by kernel_rfl) (by kernel_rfl) (by kernel_rfl) (by kernel_rfl) (fun d _ _ _ _ h => by cases d <;> exact h) (fun oi ho K hK => ?_)
      simp only [List.getElem?_toArray, List.getElem?_cons_succ, List.getElem?_cons_zero, Option.some.injEq] at ho
      subst ho
      rw [if_pos (by kernel_rfl)]
      refine ⟨.pointer (some ⟨b, off + k * 2, none⟩), fun w' hw' => ?_, hK _ ?_⟩
      · obtain ⟨hx1, hx3, hxn, hxf⟩ := hw'
        have hs := hx1.one.1
        have ho := hx3.one.1
        go_simp
      clear hK K
      refine wpAnyZ_reads 12 cD (by kernel_rfl) (by kernel_rfl) (by kernel_rfl) (by kernel_rfl) (fun d _ _ _ _ h => by cases d <;> exact h) (fun oi ho K hK => ?_)
      simp only [List.getElem?_toArray, List.getElem?_cons_succ, List.getElem?_cons_zero, Option.some.injEq] at ho
      subst ho
      rw [if_pos (by kernel_rfl)]
      refine ⟨.pointer (some ⟨b, off + k * 2 + 1, none⟩), fun w' hw' => ?_, hK _ ?_⟩
      · obtain ⟨hx1, hx3, hxn, hxf⟩ := hw'
        have hs := hx1.one.1
        have ho := hx3.one.1
        go_simp
      clear hK K
      refine wpAnyZ_reads 13 cD (by kernel_rfl) (by kernel_rfl) (by kernel_rfl) (by kernel_rfl) (fun d _ _ _ _ h => by cases d <;> exact h) (fun oi ho K hK => ?_)
      simp only [List.getElem?_toArray, List.getElem?_cons_succ, List.getElem?_cons_zero, Option.some.injEq] at ho
      subst ho
      rw [if_pos (by kernel_rfl)]
      refine ⟨.slice a' fs.length c', fun w' hw' => ?_, hK _ ?_⟩
      · obtain ⟨hx1, hx3, hxn, hxf⟩ := hw'
        have hs := hx1.one.1
        have ho := hx3.one.1
        go_simp
      clear hK K
      cases a' with
      | some ad =>
        have hnews : ∀ j u, (newsF fs)[j]? = some u → wr.drew.cell? (ad.add j) = some u := by
          rcases hF with rfl | ⟨bf, of', e, _, hc⟩
          · intro j u h; simp [newsF] at h
          · cases e; exact newsF_cells hc
        refine wpAnyZ_calls 14 (by kernel_rfl) (fun oi ho K hK => ?_)
        simp only [List.getElem?_toArray, List.getElem?_cons_succ, List.getElem?_cons_zero, Option.some.injEq] at ho
        subst ho
        refine step_own wr.drew (by rfl) (.const (.slice none 0 0)) (.tmp 25) 67 (by rfl) (w.heap.size + 3) 66 j0 (.agg #[.string ⟨#[]⟩, .int .i64 0]) 2 24 Tryz.underlying67 hj hy0 hy1 hy2 (by rfl) (by decide) (.slice none 0 0) 0 [] ?q1 (World.ownsRow_nil _ _ _ _) ad fs.length c' (newsF fs) ?q2 (newsF_len fs) hnews (newsF_one fs) (by unfold maxLen; omega) (by omega) ?q3 ?_
        case q1 => go_simp
        case q2 => go_simp
        case q3 => simp; omega
        intro v1 w1 ho1 hg1 hfr
        rw [Nat.zero_add, List.nil_append] at ho1
        obtain ⟨a1, c1, rfl, -, -⟩ := flds_of_owns ho1
        have hap1 := hide (apart_snoc (y := ((nm, fs), a1, c1)) (unhide hap) (unhide hxs).2 (hfr.elim (fun h => .inl (h.trans rfl)) (fun h => .inr ⟨_, h, Nat.le_refl _⟩)))
        clear hfr
        have b1 : Below wr.drew.heap.size wr.drew w1 := (Below.refl _ _).grown hg1 (Nat.le_refl _) (fun j e => by cases e)
        have cE : Box w1 w.heap.size 24 #[.slice (some ⟨b, off, none⟩) ts.length cap] ∧ Box w1 (w.heap.size + 1 + 1) 24 #[.slice av nv cv] ∧ w1.cell? ⟨b, off + k * 2, none⟩ = some (.string nm.1) ∧ w1.cell? ⟨b, off + k * 2 + 1, none⟩ = some (.slice (some ad) fs.length c') := ⟨cD.1.on b1 cD.1.lt, cD.2.1.on b1 cD.2.1.lt, (b1.cell (p := ⟨b, off + k * 2, none⟩) (cell_lt cD.2.2.1)).trans cD.2.2.1, (b1.cell (p := ⟨b, off + k * 2 + 1, none⟩) (cell_lt cD.2.2.2)).trans cD.2.2.2⟩
        refine hK _ _ (.inr cE) ?_
        clear hK K hnews
        replace ho1 := hide ho1
        refine wpAnyZ_reads 15 cE (by kernel_rfl) (by kernel_rfl) (by kernel_rfl) (by kernel_rfl) (fun d _ _ _ _ h => by cases d <;> exact h) (fun oi ho K hK => ?_)
        simp only [List.getElem?_toArray, List.getElem?_cons_succ, List.getElem?_cons_zero, Option.some.injEq] at ho
        subst ho
        rw [if_pos (by kernel_rfl)]
        refine ⟨.agg #[.string nm.1, .slice a1 fs.length c1], fun w' hw' => ?_, hK _ ?_⟩
        · clear hw'
          go_simp
        clear hK K
        have bF : Below w1.heap.size w1 (w1.alloc (.cells #[.string nm.1, .slice a1 fs.length c1] 69)) := (Below.refl _ _).alloc (Nat.le_refl _) _
        have cF : Box (w1.alloc (.cells #[.string nm.1, .slice a1 fs.length c1] 69)) w.heap.size 24 #[.slice (some ⟨b, off, none⟩) ts.length cap] ∧ Box (w1.alloc (.cells #[.string nm.1, .slice a1 fs.length c1] 69)) (w.heap.size + 1 + 1) 24 #[.slice av nv cv] ∧ (w1.alloc (.cells #[.string nm.1, .slice a1 fs.length c1] 69)).cell? ⟨b, off + k * 2, none⟩ = some (.string nm.1) ∧ (w1.alloc (.cells #[.string nm.1, .slice a1 fs.length c1] 69)).cell? ⟨b, off + k * 2 + 1, none⟩ = some (.slice (some ad) fs.length c') := ⟨cE.1.on bF cE.1.lt, cE.2.1.on bF cE.2.1.lt, (bF.cell (p := ⟨b, off + k * 2, none⟩) (cell_lt cE.2.2.1)).trans cE.2.2.1, (bF.cell (p := ⟨b, off + k * 2 + 1, none⟩) (cell_lt cE.2.2.2)).trans cE.2.2.2⟩
        refine wpAnyZ_calls 16 (by kernel_rfl) (fun oi ho K hK => ?_)
        simp only [List.getElem?_toArray, List.getElem?_cons_succ, List.getElem?_cons_zero, Option.some.injEq] at ho
        subst ho
        go_simp
        refine hK _ _ (.inr cF) ?_
        clear hK K
        have q1 := (bD.trans (b1.mono bD.size)).trans (bF.mono (bD.trans (b1.mono bD.size)).size)
        have hrow1 := owns_below (unhide hrow) q1
        have hs1 := q1.size
        have hw1 := bF.size
        refine wpAnyZ_calls 17 (by kernel_rfl) (fun oi ho K hK => ?_)
        simp only [List.getElem?_toArray, List.getElem?_cons_succ, List.getElem?_cons_zero, Option.some.injEq] at ho
        subst ho
        refine step_own (w1.alloc (.cells #[.string nm.1, .slice a1 fs.length c1] 69)) (by rfl) (.tmp 13) (.tmp 28) 22 (by rfl) (w.heap.size + 3) 69 i0 (.agg #[.string ⟨#[]⟩, .slice none 0 0]) 2 40 Tryz.underlying22 hi hz0 hz1 hz2 (by rfl) (by decide) (.slice av nv cv) k (newsT xs) ?q1 hrow1 ⟨w1.heap.size, 0, none⟩ 1 1 [.string nm.1, .slice a1 fs.length c1] ?q2 (by rfl) (cell_two_new _ _ _ _) (by simp [Value.oneCell']) (by unfold maxLen; omega) (by omega) (by omega) ?_
        case q1 => go_simp
        case q2 => go_simp
        intro v2 w2 ho2 hg2 _
        have hne : ∀ g, (Value.slice av nv cv).ownBlock = some g → w.heap.size + 3 ≤ g ∧ ∃ cur, (w1.alloc (.cells #[.string nm.1, .slice a1 fs.length c1] 69)).heap[g]? = some (.cells cur 69 (0, 0)) := fun g hg => owns_lt hrow1 hg
        have hblk : ∀ q, q < (w1.alloc (.cells #[.string nm.1, .slice a1 fs.length c1] 69)).heap.size → (Value.slice av nv cv).ownBlock ≠ some q → w2.heap[q]? = (w1.alloc (.cells #[.string nm.1, .slice a1 fs.length c1] 69)).heap[q]? := fun q hq hn => hg2.block q hq (fun e => hn e.symm)
        have hlow : Below (w.heap.size + 3) (w1.alloc (.cells #[.string nm.1, .slice a1 fs.length c1] 69)) w2 := (Below.refl _ _).grown hg2 (by omega) (fun q e => (hne q e).1)
        have cG : Box w2 w.heap.size 24 #[.slice (some ⟨b, off, none⟩) ts.length cap] ∧ Box w2 (w.heap.size + 1 + 1) 24 #[.slice av nv cv] ∧ w2.cell? ⟨b, off + k * 2, none⟩ = some (.string nm.1) ∧ w2.cell? ⟨b, off + k * 2 + 1, none⟩ = some (.slice (some ad) fs.length c') := ⟨cF.1.on hlow (by omega), cF.2.1.on hlow (by omega), (hlow.cell (p := ⟨b, off + k * 2, none⟩) (by simp only; omega)).trans cF.2.2.1, (hlow.cell (p := ⟨b, off + k * 2 + 1, none⟩) (by simp only; omega)).trans cF.2.2.2⟩
        have hkeep : ∀ {n : Nat} {u : Value} {ys : List Value}, (w1.alloc (.cells #[.string nm.1, .slice a1 fs.length c1] 69)).ownsRow (w.heap.size + 3) 66 2 u n ys → w2.ownsRow (w.heap.size + 3) 66 2 u n ys := fun h => owns_keep h fun g hg hl => hblk g hl (fun e => by
          obtain ⟨_, cur, h1⟩ := hne g e
          obtain ⟨_, cur', h2⟩ := owns_lt h hg
          rw [h1] at h2; cases h2)
        have hown2 : ∀ x ∈ xs ++ [((nm, fs), a1, c1)], Tw.own (w.heap.size + 3) w2 x := fun x hx => by
          rcases List.mem_append.1 hx with hx | hx
          · exact hkeep (owns_below ((unhide hxs).2 x hx) q1)
          · simp only [List.mem_singleton] at hx
            subst hx
            exact hkeep (owns_below (unhide ho1) bF)
        obtain ⟨g2, cap2, rfl⟩ := ownsRow_succ ho2
        have y32 := y2.on q1 y2.lt
        replace y32 := y32.on hlow (by omega)
        have ho2' := owns_set ho2 ⟨w.heap.size + 1 + 1, 0, none⟩ (.slice (some ⟨g2, 0, none⟩) (k + 1) cap2) (by simp only; omega)
        have hown3 : ∀ x ∈ xs ++ [((nm, fs), a1, c1)], Tw.own (w.heap.size + 3) (w2.setCell ⟨w.heap.size + 1 + 1, 0, none⟩ (.slice (some ⟨g2, 0, none⟩) (k + 1) cap2)) x := fun x hx => owns_set (hown2 x hx) ⟨w.heap.size + 1 + 1, 0, none⟩ (.slice (some ⟨g2, 0, none⟩) (k + 1) cap2) (by simp only; omega)
        have bAll := (bw.trans (q1.mono bw.size)).trans (hlow.mono (by omega))
        replace ho2' := hide ho2'
        replace hown3 := hide hown3
        have hs2 := hlow.size
        clear hown2 hkeep ho2 hg2 hblk hne hrow1
        refine hK _ _ (.inr cG) ?_
        clear hK K
        obtain ⟨hq0, hq1⟩ := cG.2.1.one
        refine wpAnyZ_reads 18 cG (by kernel_rfl) (by kernel_rfl) (by kernel_rfl) (by kernel_rfl) (fun d _ _ _ _ h => by cases d <;> exact h) (fun oi ho K hK => ?_)
        simp only [List.getElem?_toArray, List.getElem?_cons_succ, List.getElem?_cons_zero, Option.some.injEq] at ho
        subst ho
        rw [if_pos (by kernel_rfl)]
        refine ⟨.pointer (some ⟨w.heap.size + 1 + 1, 0, none⟩), fun w' hw' => ?_, hK _ ?_⟩
        · clear hw'
          go_simp
        clear hK K
        refine wpAnyZ_calls 19 (by kernel_rfl) (fun oi ho K hK => ?_)
        simp only [List.getElem?_toArray, List.getElem?_cons_succ, List.getElem?_cons_zero, Option.some.injEq] at ho
        subst ho
        go_simp
        refine hK _ _ (.inl rfl) ?_
        clear hK K
        refine wpAnyZ_done (by kernel_rfl) ?_ _
        go_wp2_with fail
        refine ⟨⟨k + 1, xs ++ [((nm, fs), a1, c1)], _, by omega, by go_num, hide ⟨?_, unhide hown3⟩, hide ?_, cG.2.1.set 0 _, cG.1.other _ _ (by simp only; omega), y32.other _ _ (by simp only; omega), bAll.setCell (p := ⟨w.heap.size + 1 + 1, 0, none⟩) (by simp only; omega) _, by simp; omega, hap1⟩, by simp [intOf]; omega⟩
        · rw [unhide hsucc, List.map_append, (unhide hxs).1]; rfl
        · have e2 : newsT (xs ++ [((nm, fs), a1, c1)]) = newsT xs ++ [.string nm.1, .slice a1 fs.length c1] := by simp [newsT]
          rw [e2]
          exact unhide ho2'
      | none =>
        obtain rfl : fs = [] := by
          rcases hF with h | ⟨bf, of', e, _⟩
          · exact h
          · cases e
        refine wpAnyZ_calls 14 (by kernel_rfl) (fun oi ho K hK => ?_)
        simp only [List.getElem?_toArray, List.getElem?_cons_succ, List.getElem?_cons_zero, Option.some.injEq] at ho
        subst ho
        refine step_none wr.drew (by rfl) (.const (.slice none 0 0)) (.tmp 25) 67 (by rfl) 66 j0 (.agg #[.string ⟨#[]⟩, .int .i64 0]) Tryz.underlying67 hj hy0 c' ?q1 ?q2 ?_
        case q1 => go_simp
        case q2 => go_simp
        have b1 : Below wr.drew.heap.size wr.drew wr.drew := Below.refl _ _
        have cE := cD
        have ho1 := hide (World.ownsRow_nil wr.drew (w.heap.size + 3) 66 2)
        refine hK _ _ (.inr cE) ?_
        clear hK K
        refine wpAnyZ_reads 15 cE (by kernel_rfl) (by kernel_rfl) (by kernel_rfl) (by kernel_rfl) (fun d _ _ _ _ h => by cases d <;> exact h) (fun oi ho K hK => ?_)
        simp only [List.getElem?_toArray, List.getElem?_cons_succ, List.getElem?_cons_zero, Option.some.injEq] at ho
        subst ho
        rw [if_pos (by kernel_rfl)]
        refine ⟨.agg #[.string nm.1, .slice none 0 0], fun w' hw' => ?_, hK _ ?_⟩
        · clear hw'
          go_simp
        clear hK K
        have bF : Below wr.drew.heap.size wr.drew (wr.drew.alloc (.cells #[.string nm.1, .slice none 0 0] 69)) := (Below.refl _ _).alloc (Nat.le_refl _) _
        have cF : Box (wr.drew.alloc (.cells #[.string nm.1, .slice none 0 0] 69)) w.heap.size 24 #[.slice (some ⟨b, off, none⟩) ts.length cap] ∧ Box (wr.drew.alloc (.cells #[.string nm.1, .slice none 0 0] 69)) (w.heap.size + 1 + 1) 24 #[.slice av nv cv] ∧ (wr.drew.alloc (.cells #[.string nm.1, .slice none 0 0] 69)).cell? ⟨b, off + k * 2, none⟩ = some (.string nm.1) ∧ (wr.drew.alloc (.cells #[.string nm.1, .slice none 0 0] 69)).cell? ⟨b, off + k * 2 + 1, none⟩ = some (.slice none 0 c') := ⟨cE.1.on bF cE.1.lt, cE.2.1.on bF cE.2.1.lt, (bF.cell (p := ⟨b, off + k * 2, none⟩) (cell_lt cE.2.2.1)).trans cE.2.2.1, (bF.cell (p := ⟨b, off + k * 2 + 1, none⟩) (cell_lt cE.2.2.2)).trans cE.2.2.2⟩
        refine wpAnyZ_calls 16 (by kernel_rfl) (fun oi ho K hK => ?_)
        simp only [List.getElem?_toArray, List.getElem?_cons_succ, List.getElem?_cons_zero, Option.some.injEq] at ho
        subst ho
        go_simp
        refine hK _ _ (.inr cF) ?_
        clear hK K
        have q1 := (bD.trans (b1.mono bD.size)).trans (bF.mono (bD.trans (b1.mono bD.size)).size)
        have hrow1 := owns_below (unhide hrow) q1
        have hs1 := q1.size
        have hw1 := bF.size
        refine wpAnyZ_calls 17 (by kernel_rfl) (fun oi ho K hK => ?_)
        simp only [List.getElem?_toArray, List.getElem?_cons_succ, List.getElem?_cons_zero, Option.some.injEq] at ho
        subst ho
        refine step_own (wr.drew.alloc (.cells #[.string nm.1, .slice none 0 0] 69)) (by rfl) (.tmp 13) (.tmp 28) 22 (by rfl) (w.heap.size + 3) 69 i0 (.agg #[.string ⟨#[]⟩, .slice none 0 0]) 2 40 Tryz.underlying22 hi hz0 hz1 hz2 (by rfl) (by decide) (.slice av nv cv) k (newsT xs) ?q1 hrow1 ⟨wr.drew.heap.size, 0, none⟩ 1 1 [.string nm.1, .slice none 0 0] ?q2 (by rfl) (cell_two_new _ _ _ _) (by simp [Value.oneCell']) (by unfold maxLen; omega) (by omega) (by omega) ?_
        case q1 => go_simp
        case q2 => go_simp
        intro v2 w2 ho2 hg2 _
        have hne : ∀ g, (Value.slice av nv cv).ownBlock = some g → w.heap.size + 3 ≤ g ∧ ∃ cur, (wr.drew.alloc (.cells #[.string nm.1, .slice none 0 0] 69)).heap[g]? = some (.cells cur 69 (0, 0)) := fun g hg => owns_lt hrow1 hg
        have hblk : ∀ q, q < (wr.drew.alloc (.cells #[.string nm.1, .slice none 0 0] 69)).heap.size → (Value.slice av nv cv).ownBlock ≠ some q → w2.heap[q]? = (wr.drew.alloc (.cells #[.string nm.1, .slice none 0 0] 69)).heap[q]? := fun q hq hn => hg2.block q hq (fun e => hn e.symm)
        have hlow : Below (w.heap.size + 3) (wr.drew.alloc (.cells #[.string nm.1, .slice none 0 0] 69)) w2 := (Below.refl _ _).grown hg2 (by omega) (fun q e => (hne q e).1)
        have cG : Box w2 w.heap.size 24 #[.slice (some ⟨b, off, none⟩) ts.length cap] ∧ Box w2 (w.heap.size + 1 + 1) 24 #[.slice av nv cv] ∧ w2.cell? ⟨b, off + k * 2, none⟩ = some (.string nm.1) ∧ w2.cell? ⟨b, off + k * 2 + 1, none⟩ = some (.slice none 0 c') := ⟨cF.1.on hlow (by omega), cF.2.1.on hlow (by omega), (hlow.cell (p := ⟨b, off + k * 2, none⟩) (by simp only; omega)).trans cF.2.2.1, (hlow.cell (p := ⟨b, off + k * 2 + 1, none⟩) (by simp only; omega)).trans cF.2.2.2⟩
        have hkeep : ∀ {n : Nat} {u : Value} {ys : List Value}, (wr.drew.alloc (.cells #[.string nm.1, .slice none 0 0] 69)).ownsRow (w.heap.size + 3) 66 2 u n ys → w2.ownsRow (w.heap.size + 3) 66 2 u n ys := fun h => owns_keep h fun g hg hl => hblk g hl (fun e => by
          obtain ⟨_, cur, h1⟩ := hne g e
          obtain ⟨_, cur', h2⟩ := owns_lt h hg
          rw [h1] at h2; cases h2)
        have hown2 : ∀ x ∈ xs ++ [((nm, []), none, 0)], Tw.own (w.heap.size + 3) w2 x := fun x hx => by
          rcases List.mem_append.1 hx with hx | hx
          · exact hkeep (owns_below ((unhide hxs).2 x hx) q1)
          · simp only [List.mem_singleton] at hx
            subst hx
            exact hkeep (owns_below (unhide ho1) bF)
        obtain ⟨g2, cap2, rfl⟩ := ownsRow_succ ho2
        have y32 := y2.on q1 y2.lt
        replace y32 := y32.on hlow (by omega)
        have ho2' := owns_set ho2 ⟨w.heap.size + 1 + 1, 0, none⟩ (.slice (some ⟨g2, 0, none⟩) (k + 1) cap2) (by simp only; omega)
        have hown3 : ∀ x ∈ xs ++ [((nm, []), none, 0)], Tw.own (w.heap.size + 3) (w2.setCell ⟨w.heap.size + 1 + 1, 0, none⟩ (.slice (some ⟨g2, 0, none⟩) (k + 1) cap2)) x := fun x hx => owns_set (hown2 x hx) ⟨w.heap.size + 1 + 1, 0, none⟩ (.slice (some ⟨g2, 0, none⟩) (k + 1) cap2) (by simp only; omega)
        have bAll := (bw.trans (q1.mono bw.size)).trans (hlow.mono (by omega))
        replace ho2' := hide ho2'
        replace hown3 := hide hown3
        have hs2 := hlow.size
        clear hown2 hkeep ho2 hg2 hblk hne hrow1
        refine hK _ _ (.inr cG) ?_
        clear hK K
        obtain ⟨hq0, hq1⟩ := cG.2.1.one
        refine wpAnyZ_reads 18 cG (by kernel_rfl) (by kernel_rfl) (by kernel_rfl) (by kernel_rfl) (fun d _ _ _ _ h => by cases d <;> exact h) (fun oi ho K hK => ?_)
        simp only [List.getElem?_toArray, List.getElem?_cons_succ, List.getElem?_cons_zero, Option.some.injEq] at ho
        subst ho
        rw [if_pos (by kernel_rfl)]
        refine ⟨.pointer (some ⟨w.heap.size + 1 + 1, 0, none⟩), fun w' hw' => ?_, hK _ ?_⟩
        · clear hw'
          go_simp
        clear hK K
        refine wpAnyZ_calls 19 (by kernel_rfl) (fun oi ho K hK => ?_)
        simp only [List.getElem?_toArray, List.getElem?_cons_succ, List.getElem?_cons_zero, Option.some.injEq] at ho
        subst ho
        go_simp
        refine hK _ _ (.inl rfl) ?_
        clear hK K
        refine wpAnyZ_done (by kernel_rfl) ?_ _
        go_wp2_with fail
        refine ⟨⟨k + 1, xs ++ [((nm, []), none, 0)], _, by omega, by go_num, hide ⟨?_, unhide hown3⟩, hide ?_, cG.2.1.set 0 _, cG.1.other _ _ (by simp only; omega), y32.other _ _ (by simp only; omega), bAll.setCell (p := ⟨w.heap.size + 1 + 1, 0, none⟩) (by simp only; omega) _, by simp; omega, hide (apart_snoc (unhide hap) (unhide hxs).2 (.inl rfl))⟩, by simp [intOf]; omega⟩
        · rw [unhide hsucc, List.map_append, (unhide hxs).1]; rfl
        · have e2 : newsT (xs ++ [((nm, []), none, 0)]) = newsT xs ++ [.string nm.1, .slice none 0 0] := by simp [newsT]
          rw [e2]
          exact unhide ho2'
    · have hke : k = ts.length := by omega
      have hall := hide (show xs.map (·.1) = ts by rw [(unhide hxs).1, hke, List.take_length])
      have hlen := hide (show xs.length = k by have := congrArg List.length (unhide hxs).1; simp at this; omega)
      have hvs : ∃ av nv cv, v = .slice av nv cv := by
        rcases (unhide hrow).2 with ⟨h, _⟩ | ⟨g, cc, _, h, _⟩ <;> exact ⟨_, _, _, h⟩
      obtain ⟨av, nv, cv, rfl⟩ := hvs
      obtain ⟨hq0, -⟩ := y3.one
      obtain ⟨hp0, hp1⟩ := y2.one
      clear hke
      go_wp2_with fail
      have u2 := (y2.set 0 (.slice av nv cv)).one.1
      refine bodyPost_ret (v := .agg #[.slice av nv cv]) (by simp [results, Tryz.results29, go_sem, u2]) rfl ⟨_, xs, rfl, ⟨unhide hall, fun x hx => ?_⟩, ?_, bw.setCell (p := ⟨w.heap.size + 1, 0, none⟩) (by simp only; omega) _, unhide hap⟩
      · exact owns_base (by omega) (owns_set ((unhide hxs).2 x hx) ⟨w.heap.size + 1, 0, none⟩ (.slice av nv cv) (by simp only; omega))
      · rw [unhide hlen]
        exact owns_base (by omega) (owns_set (unhide hrow) ⟨w.heap.size + 1, 0, none⟩ (.slice av nv cv) (by simp only; omega))

end Go.Proofs.YtcjpaldijngnpaaGreatDoor

namespace Go.Proofs.YtcjpaldijngnpaaGreatDoor
open Go.RowKit Go.Shelf



theorem newsF_set (fs : List Fd) (p : Nat) (hp : p < fs.length) (f : Fd) : newsF (fs.set p f) = ((newsF fs).set (p * 2) (.string f.1.1)).set (p * 2 + 1) (.int .i64 f.2) := by
  induction fs generalizing p with
  | nil => simp at hp
  | cons a l ih =>
    cases p with
    | zero => simp [newsF]
    | succ p =>
      have := ih p (by simpa using hp)
      simp only [newsF, List.set_cons_succ, List.flatMap_cons, List.cons_append, List.nil_append] at this ⊢
      rw [this, show (p + 1) * 2 = p * 2 + 1 + 1 by omega, show p * 2 + 1 + 1 + 1 = p * 2 + 1 + 1 + 1 by rfl]
      simp


end Go.Proofs.YtcjpaldijngnpaaGreatDoor

namespace Go.Proofs.YtcjpaldijngnpaaGreatDoor
open Go.RowKit Go.Shelf

theorem filterMap_one {g : Fd → Option Fd} (fs : List Fd) (p : Nat) (hp : p < fs.length) (h : ∀ i (hi : i < fs.length), i ≠ p → g fs[i] = some fs[i]) : fs.filterMap g = fs.take p ++ (g fs[p]).toList ++ fs.drop (p + 1) := by
  induction fs generalizing p with
  | nil => simp at hp
  | cons a l ih =>
    cases p with
    | zero =>
      have e : l.filterMap g = l := filterMap_same l fun f hf => by
        obtain ⟨i, hi, rfl⟩ := List.getElem_of_mem hf
        have := h (i + 1) (by simpa using hi) (by omega)
        simpa using this
      simp only [List.take_zero, List.nil_append, List.getElem_cons_zero, List.drop_succ_cons, List.drop_zero]
      cases hg : g a <;> simp [hg, e]
    | succ p =>
      have h0 := h 0 (by simp) (by omega)
      simp only [List.getElem_cons_zero] at h0
      rw [List.filterMap_cons, h0]
      have := ih p (by simpa using hp) (fun i hi hne => by have := h (i + 1) (by simpa using hi) (by omega); simpa using this)
      simp [this]

/-- The field of that name alone is met. -/
theorem fchg_other {fs : List Fd} {c : Ch} {p : Nat} (hF : SchF fs) (hp : placeN (fnames fs) c.f.1 = some p) (mine : Bool) : ∀ i (hi : i < fs.length), i ≠ p → fchg mine c fs[i] = some fs[i] := by
  intro i hi hne
  obtain ⟨hk, hkey, -⟩ := placeN_some hp
  have hkl : p < fs.length := by simpa [fnames] using hk
  have hpw := ((schF_iff fs).1 hF).2.2
  rw [List.pairwise_iff_getElem] at hpw
  have e : (fs[i].1.1.toList == c.f.1.toList) = false := by
    simp only [beq_eq_false_iff_ne, ne_eq]
    intro e
    have hkey' : key fs[p].1 = c.f.1.toList := by simpa [fnames] using hkey
    rcases Nat.lt_or_gt_of_ne hne with h | h
    · exact hpw i p hi hkl h (e.trans hkey'.symm)
    · exact hpw p i hkl hi h (hkey'.trans e.symm)
  simp [fchg, e]

theorem place_lt {fs : List Fd} {nm : ByteArray} {p : Nat} (hp : placeN (fnames fs) nm = some p) : ∃ h : p < fs.length, (fs[p].1.1.toList == nm.toList) = true := by
  obtain ⟨hk, hkey, -⟩ := placeN_some hp
  have hkl : p < fs.length := by simpa [fnames] using hk
  exact ⟨hkl, by simpa [fnames, key] using hkey⟩

theorem fNew_one {nm : Txt} {c : Ch} {fs : List Fd} (hn : key nm = key c.t) (h1 : c.k = 1) : fNew nm c fs = fs ++ [(c.f, c.dk)] := by
  rw [fNew_eq, filterMap_same fs fun f _ => fchg_no _ c (by omega) (by omega) (by omega) f]
  simp [hn, h1]

theorem fNew_at {nm : Txt} {c : Ch} {fs : List Fd} {p : Nat} (hF : SchF fs) (hp : placeN (fnames fs) c.f.1 = some p) (h1 : c.k ≠ 1) : fNew nm c fs = fs.take p ++ (fchg (key nm == key c.t) c (fd fs p)).toList ++ fs.drop (p + 1) := by
  obtain ⟨hl, -⟩ := place_lt hp
  rw [fNew_eq, filterMap_one fs p hl (fchg_other hF hp _)]
  simp [h1, fd, hl]
theorem fNew_two {nm : Txt} {c : Ch} {fs : List Fd} {p : Nat} (hF : SchF fs) (hp : placeN (fnames fs) c.f.1 = some p) (hn : key nm = key c.t) (h2 : c.k = 2) : fNew nm c fs = fs.take p ++ fs.drop (p + 1) := by
  obtain ⟨hl, he⟩ := place_lt hp
  rw [fNew_at hF hp (by omega)]
  simp [fchg, hn, fd, hl, he, h2]
theorem set_split {α : Type} (l : List α) (p : Nat) (hp : p < l.length) (x : α) : l.take p ++ [x] ++ l.drop (p + 1) = l.set p x := by
  rw [List.set_eq_take_append_cons_drop, if_pos hp]; simp
theorem fNew_three {nm : Txt} {c : Ch} {fs : List Fd} {p : Nat} (hF : SchF fs) (hp : placeN (fnames fs) c.f.1 = some p) (hn : key nm = key c.t) (h3 : c.k = 3) : fNew nm c fs = fs.set p (c.o, (fd fs p).2) := by
  obtain ⟨hl, he⟩ := place_lt hp
  rw [fNew_at hF hp (by omega), ← set_split fs p hl]
  simp [fchg, hn, fd, hl, he, h3]
theorem fNew_four {nm : Txt} {c : Ch} {fs : List Fd} {p : Nat} (hF : SchF fs) (hp : placeN (fnames fs) c.f.1 = some p) (hn : key nm = key c.t) (h4 : c.k = 4) : fNew nm c fs = fs.set p ((fd fs p).1, 1) := by
  obtain ⟨hl, he⟩ := place_lt hp
  rw [fNew_at hF hp (by omega), ← set_split fs p hl]
  simp [fchg, hn, fd, hl, he, h4]

theorem app_set {ts : List Ty} {c : Ch} {j : Nat} (hS : Sch ts) (h0 : refE ts c = 0) (h5 : c.k ≠ 5) (hp : placeN (tnames ts) c.t.1 = some j) : appT ts c = ts.set j ((ty ts j).1, fNew (ty ts j).1 c (ty ts j).2) := by
  obtain ⟨hj, hk⟩ := place_key hp
  have hpw := ((sch_iff ts).1 hS).2.2
  rw [List.pairwise_iff_getElem] at hpw
  rw [appT, if_pos h0, tNew_map c ts h5]
  apply List.ext_getElem (by simp)
  intro i h1 h2
  simp only [List.length_map] at h1
  rw [List.getElem_map, List.getElem_set]
  by_cases e : j = i
  · subst e
    simp [chgT, ty, h1]
  · rw [if_neg e]
    refine chgT_other fun e' => ?_
    have hk' : key ts[j].1 = key c.t := by simpa [ty, hj] using hk
    rcases Nat.lt_or_gt_of_ne e with h | h
    · exact List.lt_irrefl _ (by have := hpw j i hj h1 h; rwa [hk', e'] at this)
    · exact List.lt_irrefl _ (by have := hpw i j h1 hj h; rwa [hk', e'] at this)



/-- One cell more in its place. -/
theorem owns_putR {W : World} {base g c : Nat} {e : TypeId} {size n : Nat} {xs : List Value} (h : W.ownsRow base e size (.slice (some ⟨g, 0, none⟩) n c) n xs) (i : Nat) (hi : i < n * size) (u : Value) :
    (W.setCell ⟨g, i, none⟩ u).ownsRow base e size (.slice (some ⟨g, 0, none⟩) n c) n (xs.set i u) := by
  obtain ⟨hl, h2⟩ := h
  rcases h2 with ⟨e', _⟩ | ⟨g', c', cur, e', hb, hg, hnc, hcm, hcs, ht⟩
  · cases e'
  · simp only [Value.slice.injEq, Option.some.injEq, Addr.mk.injEq, true_and, and_true] at e'
    obtain ⟨rfl, rfl⟩ := e'
    have hbx : Box W g e cur := hg
    have hic : i < cur.size := by rw [hcs]; have : n * size ≤ c * size := Nat.mul_le_mul_right _ hnc; omega
    refine ⟨by rw [List.length_set]; exact hl, .inr ⟨g, c, _, rfl, hb, hbx.set i u, hnc, hcm, by simpa using hcs, ?_⟩⟩
    rw [Array.toList_setIfInBounds, ← ht, List.take_set]
/-- A type stored into a copied schema; the schema handed back. -/
theorem typs_put {W : World} {base b cv n j S : Nat} {xs : List Tw} {y : Tw} (hn : xs.length = n) (hj : j < n) (O : W.ownsRow base 69 2 (.slice (some ⟨b, 0, none⟩) n cv) n (newsT xs))
    (own : ∀ i (h : i < xs.length), i ≠ j → Tw.own base W xs[i]) (own' : Tw.own base W y) (h6 : ∀ x ∈ xs.set j y, x.1.2.length ≤ maxLen) (hS : S < base) (v : Value) :
    Typs (((W.setCell ⟨b, j * 2, none⟩ (.string y.1.1.1)).setCell ⟨b, j * 2 + 1, none⟩ (.slice y.2.1 y.1.2.length y.2.2)).setCell ⟨S, 0, none⟩ v).heap.size (((W.setCell ⟨b, j * 2, none⟩ (.string y.1.1.1)).setCell ⟨b, j * 2 + 1, none⟩ (.slice y.2.1 y.1.2.length y.2.2)).setCell ⟨S, 0, none⟩ v) (some ⟨b, 0, none⟩) ((xs.set j y).map (·.1)) := by
  subst hn
  have O2 := owns_putR (owns_putR O (j * 2) (by omega) (.string y.1.1.1)) (j * 2 + 1) (by omega) (.slice y.2.1 y.1.2.length y.2.2)
  rw [← newsT_set xs j hj y] at O2
  obtain ⟨_, cur, hg⟩ := owns_lt O (g := b) rfl
  have hg2 := (show Box W b 69 cur from hg).set (j * 2) (.string y.1.1.1)
  have o2 : ∀ {x : Tw}, Tw.own base W x → Tw.own base ((W.setCell ⟨b, j * 2, none⟩ (.string y.1.1.1)).setCell ⟨b, j * 2 + 1, none⟩ (.slice y.2.1 y.1.2.length y.2.2)) x := fun h => set_other (set_other h hg (by decide) _) hg2 (by decide) _
  have O3 := owns_set O2 ⟨S, 0, none⟩ v hS
  obtain ⟨a', c', e, hT⟩ := typs_of_owns (xs := xs.set j y) (base' := base) (by rw [List.length_set]; exact O3) (fun x hx => by
    refine owns_set (p := ⟨S, 0, none⟩) (u := v) (hp := hS) (o2 ?_)
    obtain ⟨i, hi, rfl⟩ := List.getElem_of_mem hx
    rw [List.length_set] at hi
    rw [List.getElem_set]
    split
    · exact own'
    · exact own i hi (by omega)) h6
  simp only [Value.slice.injEq] at e
  obtain ⟨rfl, -, -⟩ := e
  exact hT

end Go.Proofs.YtcjpaldijngnpaaGreatDoor

namespace Go.Proofs.YtcjpaldijngnpaaGreatDoor
open Go.RowKit Go.Shelf

structure Cp (base : Nat) (W : World) (b cv : Nat) (ts : List Ty) (xs : List Tw) : Prop where
  map : xs.map (·.1) = ts
  row : W.ownsRow base 69 2 (.slice (some ⟨b, 0, none⟩) ts.length cv) ts.length (newsT xs)
  own : ∀ x ∈ xs, Tw.own base W x
  apart : xs.Pairwise Apart

theorem Cp.len {base : Nat} {W : World} {b cv : Nat} {ts : List Ty} {xs : List Tw} (h : Cp base W b cv ts xs) : xs.length = ts.length := by rw [← h.map, List.length_map]
theorem Cp.on {base : Nat} {W W' : World} {b cv : Nat} {ts : List Ty} {xs : List Tw} (h : Cp base W b cv ts xs) (hb : Below W.heap.size W W') : Cp base W' b cv ts xs :=
  ⟨h.map, owns_below h.row hb, fun x hx => owns_below (h.own x hx) hb, h.apart⟩
/-- One type of it, where it lies. -/
theorem Cp.at {base : Nat} {W : World} {b cv : Nat} {ts : List Ty} {xs : List Tw} (h : Cp base W b cv ts xs) {j : Nat} (hj : j < ts.length) :
    ∃ a1 c1, (∃ hx : j < xs.length, xs[j] = (ty ts j, a1, c1)) ∧ W.cell? ⟨b, j * 2, none⟩ = some (.string (ty ts j).1.1) ∧ W.cell? ⟨b, j * 2 + 1, none⟩ = some (.slice a1 (ty ts j).2.length c1) ∧ (∀ i, W.frozen? ⟨b, i, none⟩ = false) ∧
      W.ownsRow base 66 2 (.slice a1 (ty ts j).2.length c1) (ty ts j).2.length (newsF (ty ts j).2) := by
  have hx : j < xs.length := by rw [h.len]; exact hj
  have et : ty ts j = xs[j].1 := by simp [ty, ← h.map, hx]
  obtain ⟨g, e, _, _, _, _, hc, hf⟩ := owns_cells h.row (by omega)
  cases e
  obtain ⟨n1, n2⟩ := newsT_at xs j hx
  have ho := h.own xs[j] (List.getElem_mem hx)
  refine ⟨xs[j].2.1, xs[j].2.2, ⟨hx, by rw [et]⟩, ?_, ?_, hf, by rw [et]; exact ho⟩
  · rw [hc _ (by omega), n1, et]
  · rw [hc _ (by omega), n2, et]

/-- The type's fields in memory may have been changed; it is stored; the schema is handed back. -/
theorem Cp.final {base : Nat} {W W' : World} {b cv : Nat} {ts : List Ty} {xs : List Tw} (h : Cp base W b cv ts xs) {j : Nat} (hj : j < ts.length) {a1 : Option Addr} {c1 : Nat} (hx : ∃ hx : j < xs.length, xs[j] = (ty ts j, a1, c1))
    (hs : ∀ q, q < W.heap.size → some q ≠ (Value.slice a1 (ty ts j).2.length c1).ownBlock → (∀ cs, ¬ (W.heap[q]? = some (.cells cs 69 (0, 0)) ∧ q ≠ b)) → W'.heap[q]? = W.heap[q]?)
    {fs : List Fd} {a' : Option Addr} {c' : Nat} (own' : W'.ownsRow base 66 2 (.slice a' fs.length c') fs.length (newsF fs)) (h5 : ∀ k, (ty ts k).2.length ≤ 5) (hf5 : fs.length ≤ 6) {S : Nat} (hS : S < base) (v : Value) :
    Typs (((W'.setCell ⟨b, j * 2, none⟩ (.string (ty ts j).1.1)).setCell ⟨b, j * 2 + 1, none⟩ (.slice a' fs.length c')).setCell ⟨S, 0, none⟩ v).heap.size (((W'.setCell ⟨b, j * 2, none⟩ (.string (ty ts j).1.1)).setCell ⟨b, j * 2 + 1, none⟩ (.slice a' fs.length c')).setCell ⟨S, 0, none⟩ v) (some ⟨b, 0, none⟩) (ts.set j ((ty ts j).1, fs)) := by
  obtain ⟨hxl, hxe⟩ := hx
  have e2 : (xs.set j (((ty ts j).1, fs), a', c')).map (·.1) = ts.set j ((ty ts j).1, fs) := by rw [List.map_set, h.map]
  obtain ⟨hbb, curb, hgb⟩ := owns_lt h.row (g := b) rfl
  have hblt := (Array.getElem?_eq_some_iff.1 hgb).1
  have r1 : W'.ownsRow base 69 2 (.slice (some ⟨b, 0, none⟩) ts.length cv) ts.length (newsT xs) := owns_keep h.row fun g hg hl => by
    cases hg
    refine hs b hl (fun e => ?_) (fun cs hh => hh.2 rfl)
    obtain ⟨_, cur, h1⟩ := owns_lt (h.own xs[j] (List.getElem_mem hxl)) (g := b) (by rw [hxe]; exact e.symm)
    rw [hgb] at h1
    cases h1
  have r2 : ∀ i (hi : i < xs.length), i ≠ j → Tw.own base W' xs[i] := fun i hi hne => by
    refine owns_keep (h.own xs[i] (List.getElem_mem hi)) fun g hg hl => hs g hl (fun e => ?_) (fun cs hh => ?_)
    · have hap := h.apart
      rw [List.pairwise_iff_getElem] at hap
      have ej : xs[j].blk = some g := by rw [hxe]; exact e.symm
      have ei : xs[i].blk = some g := hg
      rcases Nat.lt_or_gt_of_ne hne with hlt | hgt
      · exact hap i j hi hxl hlt g ei ej
      · exact hap j i hxl hi hgt g ej ei
    · obtain ⟨_, cur, h1⟩ := owns_lt (h.own xs[i] (List.getElem_mem hi)) hg
      rw [h1] at hh
      cases hh.1
  have := typs_put (y := (((ty ts j).1, fs), a', c')) (S := S) h.len hj r1 r2 own' (fun x hx => by
    obtain ⟨i, hi, rfl⟩ := List.getElem_of_mem hx
    rw [List.length_set] at hi
    rw [List.getElem_set]
    split
    · unfold maxLen; simp only; omega
    · have et : ty ts i = xs[i].1 := by simp [ty, ← h.map, hi]
      have := h5 i
      rw [et] at this
      unfold maxLen; omega) hS v
  rw [e2] at this
  exact this

theorem newsF_name (fs : List Fd) (p : Nat) (hp : p < fs.length) (o : Txt) : newsF (fs.set p (o, (fd fs p).2)) = (newsF fs).set (p * 2) (.string o.1) := by
  rw [newsF_set fs p hp]
  have h := (newsF_at fs p hp).2
  apply List.ext_getElem?
  intro i
  rw [List.getElem?_set]
  split
  · next e =>
    subst e
    simp only [List.length_set]
    rw [if_pos (by rw [newsF_len]; omega), List.getElem?_set_ne (by omega), h]
  · rfl
theorem newsF_kind (fs : List Fd) (p : Nat) (hp : p < fs.length) (k : Int) : newsF (fs.set p ((fd fs p).1, k)) = (newsF fs).set (p * 2 + 1) (.int .i64 k) := by
  rw [newsF_set fs p hp]
  have h := (newsF_at fs p hp).1
  congr 1
  apply List.ext_getElem?
  intro i
  rw [List.getElem?_set]
  split
  · next e =>
    subst e
    rw [if_pos (by rw [newsF_len]; omega), h]
  · rfl
theorem newsF_take (fs : List Fd) (p : Nat) : newsF (fs.take p) = (newsF fs).take (p * 2) := by
  induction fs generalizing p with
  | nil => simp [newsF]
  | cons a l ih =>
    cases p with
    | zero => simp [newsF]
    | succ p =>
      have := ih p
      simp only [newsF, List.take_succ_cons, List.flatMap_cons, List.cons_append, List.nil_append] at this ⊢
      rw [this, show (p + 1) * 2 = p * 2 + 1 + 1 by omega]
      simp
theorem newsF_drop (fs : List Fd) (p : Nat) : newsF (fs.drop p) = (newsF fs).drop (p * 2) := by
  induction fs generalizing p with
  | nil => simp [newsF]
  | cons a l ih =>
    cases p with
    | zero => simp [newsF]
    | succ p =>
      have := ih p
      simp only [newsF, List.drop_succ_cons, List.flatMap_cons, List.cons_append, List.nil_append] at this ⊢
      rw [this, show (p + 1) * 2 = p * 2 + 1 + 1 by omega]
      simp
theorem newsT_take (xs : List Tw) (p : Nat) : newsT (xs.take p) = (newsT xs).take (p * 2) := by
  induction xs generalizing p with
  | nil => simp [newsT]
  | cons a l ih =>
    cases p with
    | zero => simp [newsT]
    | succ p =>
      have := ih p
      simp only [newsT, List.take_succ_cons, List.flatMap_cons, List.cons_append, List.nil_append] at this ⊢
      rw [this, show (p + 1) * 2 = p * 2 + 1 + 1 by omega]
      simp
theorem newsT_drop (xs : List Tw) (p : Nat) : newsT (xs.drop p) = (newsT xs).drop (p * 2) := by
  induction xs generalizing p with
  | nil => simp [newsT]
  | cons a l ih =>
    cases p with
    | zero => simp [newsT]
    | succ p =>
      have := ih p
      simp only [newsT, List.drop_succ_cons, List.flatMap_cons, List.cons_append, List.nil_append] at this ⊢
      rw [this, show (p + 1) * 2 = p * 2 + 1 + 1 by omega]
      simp

theorem owns_shape {W : World} {base : Nat} {e : TypeId} {a : Option Addr} {size n c : Nat} {xs : List Value} (h : W.ownsRow base e size (.slice a n c) n xs) :
    (a = none ∧ n = 0 ∧ c = 0) ∨ ∃ g, a = some ⟨g, 0, none⟩ ∧ g < W.heap.size ∧ n ≤ c ∧ ∀ i, i < n * size → W.cell? ⟨g, i, none⟩ = xs[i]? := by
  rcases h.2 with ⟨h0, h1⟩ | ⟨g, cap, cur, h0, hb, hg, hnc, _, _, ht⟩
  · simp only [Value.slice.injEq] at h0
    exact .inl h0
  · simp only [Value.slice.injEq, true_and] at h0
    obtain ⟨rfl, rfl⟩ := h0
    refine .inr ⟨g, rfl, (Array.getElem?_eq_some_iff.1 hg).1, hnc, fun i hi => ?_⟩
    rw [← ht, List.getElem?_take, if_pos hi, Array.getElem?_toList]
    simp [World.cell?, hg]
/-- Blocks of unlike kinds are unlike. -/
theorem box_ne {W : World} {B g : Nat} {t e : TypeId} {cs cur : Array Value} (h : Box W B t cs) (hg : W.heap[g]? = some (.cells cur e (0, 0))) (hne : e ≠ t) : g ≠ B := by
  rintro rfl
  rw [show W.heap[g]? = _ from h] at hg
  cases hg
  exact hne rfl

end Go.Proofs.YtcjpaldijngnpaaGreatDoor

namespace Go.Proofs.YtcjpaldijngnpaaGreatDoor
open Go.RowKit Go.Shelf

theorem filterMap_range_one {β : Type} {n p : Nat} {f : Nat → Option β} {g : Nat → β} (hp : p < n) (h : ∀ j, j < n → j ≠ p → f j = some (g j)) : (List.range n).filterMap f = ((List.range n).map g).take p ++ (f p).toList ++ ((List.range n).map g).drop (p + 1) := by
  induction n with
  | zero => omega
  | succ n ih =>
    rw [List.range_succ, List.filterMap_append, List.map_append]
    rcases Nat.lt_or_ge p n with hl | hl
    · rw [ih hl (fun j hj hne => h j (by omega) hne)]
      simp only [List.filterMap_cons, List.filterMap_nil, h n (by omega) (by omega), List.map_cons, List.map_nil]
      rw [List.take_append_of_le_length (by simp; omega), List.drop_append_of_le_length (by simp; omega)]
      simp only [List.append_assoc]
    · obtain rfl : p = n := by omega
      rw [filterMap_all (g := g) (fun j hj => h j (by omega) (by omega))]
      rw [List.take_append_of_le_length (by simp), List.take_of_length_le (by simp), List.drop_of_length_le (by simp)]
      cases hf : f p <;> simp [hf]

theorem vNew_at {nm : Txt} {c : Ch} {fs : List Fd} {tm : Int} {vs : List Vl} {p : Nat} (hE : EvOk fs tm vs) (hF : SchF fs) (hp : placeN (fnames fs) c.f.1 = some p) (h1 : c.k ≠ 1) :
    vNew nm c fs vs = vs.take p ++ ((fchg (key nm == key c.t) c (fd fs p)).map fun g => (g.2, (vl vs p).2)).toList ++ vs.drop (p + 1) := by
  obtain ⟨hl, -⟩ := place_lt hp
  rw [vNew_eq, filterMap_range_one (g := vl vs) hl, ← hE.len, vs_range]
  · simp [h1]
  · intro j hj hne
    have := fchg_other hF hp (key nm == key c.t) j hj hne
    have e : fd fs j = fs[j] := by simp [fd, hj]
    rw [e, this, Option.map_some, ← e, ← hE.kind j hj]
theorem vNew_one {nm : Txt} {c : Ch} {fs : List Fd} {tm : Int} {vs : List Vl} (hE : EvOk fs tm vs) (hn : key nm = key c.t) (h1 : c.k = 1) : vNew nm c fs vs = vs ++ [(c.dk, c.dn, c.ds)] := by
  rw [vNew_keep hE fun f _ => ⟨f, fchg_no _ c (by omega) (by omega) (by omega) f, rfl⟩]
  simp [hn, h1]
theorem vNew_two {nm : Txt} {c : Ch} {fs : List Fd} {tm : Int} {vs : List Vl} {p : Nat} (hE : EvOk fs tm vs) (hF : SchF fs) (hp : placeN (fnames fs) c.f.1 = some p) (hn : key nm = key c.t) (h2 : c.k = 2) : vNew nm c fs vs = vs.take p ++ vs.drop (p + 1) := by
  obtain ⟨hl, he⟩ := place_lt hp
  rw [vNew_at hE hF hp (by omega)]
  simp [fchg, hn, fd, hl, he, h2]
theorem vNew_three {nm : Txt} {c : Ch} {fs : List Fd} {tm : Int} {vs : List Vl} (hE : EvOk fs tm vs) (h3 : c.k = 3) : vNew nm c fs vs = vs := by
  rw [vNew_keep hE fun f _ => ?_]
  · simp [h3]
  · unfold fchg
    split
    · exact ⟨(c.o, f.2), by simp [h3], rfl⟩
    · exact ⟨_, rfl, rfl⟩
theorem vNew_four {nm : Txt} {c : Ch} {fs : List Fd} {tm : Int} {vs : List Vl} {p : Nat} (hE : EvOk fs tm vs) (hF : SchF fs) (hp : placeN (fnames fs) c.f.1 = some p) (hn : key nm = key c.t) (h4 : c.k = 4) : vNew nm c fs vs = vs.set p (1, (vl vs p).2) := by
  obtain ⟨hl, he⟩ := place_lt hp
  rw [vNew_at hE hF hp (by omega), ← set_split vs p (by rw [hE.len]; exact hl)]
  simp [fchg, hn, fd, hl, he, h4]
theorem vNew_other {nm : Txt} {c : Ch} {fs : List Fd} {tm : Int} {vs : List Vl} (hE : EvOk fs tm vs) (hn : key nm ≠ key c.t) : vNew nm c fs vs = vs := by
  have e : (key nm == key c.t) = false := by simp [hn]
  rw [vNew_keep hE fun f _ => ⟨f, by rw [e]; exact fchg_not c f, rfl⟩, e]
  simp

theorem newsV_take (vs : List Vl) (p : Nat) : newsV (vs.take p) = (newsV vs).take (p * 3) := by
  induction vs generalizing p with
  | nil => simp [newsV]
  | cons a l ih =>
    cases p with
    | zero => simp [newsV]
    | succ p =>
      have := ih p
      simp only [newsV, List.take_succ_cons, List.flatMap_cons, List.cons_append, List.nil_append] at this ⊢
      rw [this, show (p + 1) * 3 = p * 3 + 1 + 1 + 1 by omega]
      simp
theorem newsV_drop (vs : List Vl) (p : Nat) : newsV (vs.drop p) = (newsV vs).drop (p * 3) := by
  induction vs generalizing p with
  | nil => simp [newsV]
  | cons a l ih =>
    cases p with
    | zero => simp [newsV]
    | succ p =>
      have := ih p
      simp only [newsV, List.drop_succ_cons, List.flatMap_cons, List.cons_append, List.nil_append] at this ⊢
      rw [this, show (p + 1) * 3 = p * 3 + 1 + 1 + 1 by omega]
      simp
theorem newsV_set (vs : List Vl) (p : Nat) (hp : p < vs.length) (v : Vl) : newsV (vs.set p v) = (((newsV vs).set (p * 3) (.int .i64 v.1)).set (p * 3 + 1) (.int .i64 v.2.1)).set (p * 3 + 2) (.string v.2.2.1) := by
  induction vs generalizing p with
  | nil => simp at hp
  | cons a l ih =>
    cases p with
    | zero => simp [newsV]
    | succ p =>
      have := ih p (by simpa using hp)
      simp only [newsV, List.set_cons_succ, List.flatMap_cons, List.cons_append, List.nil_append] at this ⊢
      rw [this, show (p + 1) * 3 = p * 3 + 1 + 1 + 1 by omega, show p * 3 + 1 + 1 + 1 + 1 = p * 3 + 1 + 1 + 1 + 1 by rfl, show p * 3 + 1 + 1 + 1 + 2 = p * 3 + 2 + 1 + 1 + 1 by omega]
      simp

end Go.Proofs.YtcjpaldijngnpaaGreatDoor
