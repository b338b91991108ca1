/-
  Package check: the kinds that an Op makes, a field's kind in a type, whether an element's types are there: pure functions and contracts.
-/
import Derived.Test.YtllpigbmkhanjaaPat
import Derived.Test.YtllpigbmkhanjaaFind
import Derived.Test.YtllpigbmkhanjaaErrIs
namespace Go.Proofs.Ytllpigbmkhanjaa
open Go.RowKit Go.Shelf

attribute [local go_sem] Oper.semAt_some

/-- A kind, and what is wrong (0 where nothing is). -/
abbrev KR := Int × Int
def errO (e : Int) : Value := if e = 0 then .nilIface else errV e
abbrev encK (x : KR) : Array Value := #[.int .i64 x.1, errO x.2]
abbrev KR.v (x : KR) : Value := .tuple (encK x)

/-- What an Op makes of kids that are all of one kind. -/
def resP (op k : Int) : KR :=
  if op = 3 ∨ op = 4 ∨ op = 5 then (if k = 1 then (1, 0) else (0, 14))
  else if op = 8 ∨ op = 9 then (if k = 1 ∨ k = 2 then (3, 0) else (0, 14))
  else if op = 6 ∨ op = 7 then (3, 0)
  else if op = 10 ∨ op = 11 ∨ op = 12 then (if k = 3 then (3, 0) else (0, 14))
  else (0, 14)

set_option maxHeartbeats 1000000 in
theorem result_c (op k : Int) (w : World) : Calls Try.prog 26 #[.int .i64 op, .int .i64 k] w fun r W' => r = .returned (resP op k).v ∧ W' = w := by
  go_enter Try.func26, Try.ntmps26
  go_wp2
  all_goals go_ret2
  all_goals refine ⟨?_, rfl⟩
  all_goals simp_all [resP, KR.v, encK, errO]

def fkP (ts : List Ty) (t nm : ByteArray) : KR :=
  match placeN (tnames ts) t with
  | none => (0, 13)
  | some k => match placeN (fnames (ty ts k).2) nm with
    | none => (0, 13)
    | some j => ((fd (ty ts k).2 j).2, 0)

/-- A schema: few types, few fields of each, below n₀. -/
structure Schm (n₀ : Nat) (W : World) (a : Option Addr) (ts : List Ty) : Prop where
  typs : Typs n₀ W a ts
  few : ts.length ≤ 5
  fld : ∀ k, (ty ts k).2.length ≤ 5
theorem Schm.on {A B : World} {a : Option Addr} {ts : List Ty} (h : Schm A.heap.size A a ts) (hb : Below A.heap.size A B) : Schm B.heap.size B a ts := ⟨h.typs.on hb, h.few, h.fld⟩

set_option maxHeartbeats 1000000 in
theorem fieldKind_c (a : Option Addr) (cap : Nat) (ts : List Ty) (t nm : ByteArray) (w : World) (hS : Schm w.heap.size w a ts) :
    Calls Try.prog 33 #[.agg #[.slice a ts.length cap], .string t, .string nm] w fun r W' => r = .returned (fkP ts t nm).v ∧ Below w.heap.size w W' := by
  have b0 : Below w.heap.size w (w.alloc (.cells #[.slice a ts.length cap] 37)) := (Below.refl _ _).alloc (Nat.le_refl _) _
  have s0 := hS.on b0
  obtain ⟨s0, h5, hf⟩ := s0
  replace hf := hide hf
  have hsz : (w.alloc (.cells #[.slice a ts.length cap] 37)).heap.size = w.heap.size + 1 := by simp
  rcases hp : placeN (tnames ts) t with _ | k
  · have H := hide (show fkP ts t nm = (0, 13) by simp [fkP, hp])
    have c1 := hide (find_none a cap ts t h5 _ s0 hp)
    clear hp s0
    go_enter Try.func33, Try.ntmps33
    go_wp2_with fail
    refine (unhide c1).mono ?_
    rintro e w1 ⟨rfl, hb1⟩
    go_wp2_with fail
    have b2 : Below w.heap.size w (w1.alloc (.cells #[.string ⟨#[]⟩, .slice none 0 0] 63)) := (b0.trans (hb1.mono b0.size)).alloc (Nat.le_trans b0.size hb1.size) _
    refine (field_c ⟨#[]⟩ nm none 0 [] (by decide) _ (.inl rfl)).mono ?_
    rintro e w3 ⟨rfl, hb3⟩
    have e1 : placeI (fnames []) nm = -1 := rfl
    rw [e1]
    go_wp2_with fail
    go_ret2
    exact ⟨by rw [unhide H]; rfl, b2.trans (hb3.mono b2.size)⟩
  · have h5k := unhide hf k
    have c1 := hide (find_some a cap ts t k h5 _ s0 hp h5k)
    have hkl : k < ts.length := by have := placeN_lt hp; rwa [tnames_len] at this
    obtain ⟨T, hT⟩ : ∃ T, T = ty ts k := ⟨_, rfl⟩
    rw [← hT] at c1 h5k
    have H0 : fkP ts t nm = match placeN (fnames T.2) nm with | none => (0, 13) | some j => ((fd T.2 j).2, 0) := by rw [hT]; simp only [fkP, hp]
    clear hp s0 hT
    go_enter Try.func33, Try.ntmps33
    go_wp2_with fail
    refine (unhide c1).mono ?_
    rintro e w1 ⟨a1, c1, rfl, ⟨f1, -⟩, hb1⟩
    go_wp2_with fail
    have b2 : Below w1.heap.size w1 (w1.alloc (.cells #[.string T.1.1, .slice a1 T.2.length c1] 63)) := (Below.refl _ _).alloc (Nat.le_refl _) _
    have f2 := f1.on b2
    refine (field_c T.1.1 nm a1 c1 T.2 h5k _ f2).mono ?_
    rintro e w3 ⟨rfl, hb3⟩
    have f3 := f2.on hb3
    have x3 : Box w3 w1.heap.size 63 #[.string T.1.1, .slice a1 T.2.length c1] := (Box.new w1 63 _).on hb3 (by simp)
    obtain ⟨q0, q1⟩ := x3.two
    have b3 := b2.trans (hb3.mono b2.size)
    have bb : Below w.heap.size w w3 := (b0.trans (hb1.mono b0.size)).trans (b3.mono (Nat.le_trans b0.size hb1.size))
    rcases hq : placeN (fnames T.2) nm with _ | j
    · have H := hide (show fkP ts t nm = (0, 13) by rw [H0, hq])
      have e1 : placeI (fnames T.2) nm = -1 := by simp [placeI, hq]
      clear H0 hq
      rw [e1]
      go_wp2_with fail
      go_ret2
      exact ⟨by rw [unhide H]; rfl, bb⟩
    · have H := hide (show fkP ts t nm = ((fd T.2 j).2, 0) by rw [H0, hq])
      have e1 : placeI (fnames T.2) nm = j := by simp [placeI, hq]
      have hjl : j < T.2.length := by have := placeN_lt hq; rwa [fnames_len] at this
      clear H0 hq
      rw [e1]
      rcases f3 with h0 | ⟨b, off, rfl, hb, hc⟩
      · rw [h0] at hjl; simp at hjl
      obtain ⟨g1, g2⟩ := hc j hjl
      clear hc
      have hjI : (j : Int) < T.2.length := by omega
      go_wp2_with fail
      go_ret2
      exact ⟨by rw [unhide H]; rfl, bb⟩

/-- Whether all types of an element are there. -/
def hasB (ts : List Ty) (l : List Txt) : Bool := l.all fun t => (placeN (tnames ts) t.1).isSome
theorem hasB_snoc (ts : List Ty) (l : List Txt) (t : Txt) : hasB ts (l ++ [t]) = (hasB ts l && (placeN (tnames ts) t.1).isSome) := by simp [hasB]
theorem hasB_no (ts : List Ty) (l : List Txt) (j : Nat) (t : Txt) (hj : l[j]? = some t) (h : (placeN (tnames ts) t.1) = none) : hasB ts l = false := by
  have := List.mem_of_getElem? hj
  simp only [hasB, List.all_eq_false]
  exact ⟨t, this, by simp [h]⟩
theorem find_c (a : Option Addr) (cap : Nat) (ts : List Ty) (nm : ByteArray) (w : World) (hS : Schm w.heap.size w a ts) :
    Calls Try.prog 45 #[.agg #[.slice a ts.length cap], .string nm] w fun e w' => ∃ x l a' c', e = .returned (.tuple #[.agg #[.string x, .slice a' l c'], .bool (placeN (tnames ts) nm).isSome]) ∧ Below w.heap.size w w' := by
  rcases hp : placeN (tnames ts) nm with _ | k
  · refine (find_none a cap ts nm hS.few w hS.typs hp).mono ?_
    rintro e w1 ⟨rfl, hb⟩
    exact ⟨_, _, _, _, rfl, hb⟩
  · refine (find_some a cap ts nm k hS.few w hS.typs hp (hS.fld k)).mono ?_
    rintro e w1 ⟨a', c', rfl, -, hb⟩
    exact ⟨_, _, _, _, rfl, hb⟩

set_option maxRecDepth 100000 in
set_option maxHeartbeats 2000000 in
theorem hasTypes_c (a : Option Addr) (cap : Nat) (ts : List Ty) (e : Em) (p : Pl) (w : World) (hS : Schm w.heap.size w a ts) (hE : EmIn w.heap.size w e p) :
    Calls Try.prog 31 #[.agg #[.slice a ts.length cap], e.v p] w fun r W' => r = .returned (.bool (hasB ts e.ts)) ∧ Below w.heap.size w W' := by
  obtain ⟨al, tsE, pl, nt, t⟩ := e
  obtain ⟨ta, tcap, ka, kc⟩ := p
  obtain ⟨W0, hW0⟩ : ∃ W0, W0 = (w.alloc (.cells #[.slice a ts.length cap] 37)).alloc (.cells (Em.cs ⟨al, tsE, pl, nt, t⟩ ⟨ta, tcap, ka, kc⟩) 41) := ⟨_, rfl⟩
  have b0 : Below w.heap.size w W0 := by rw [hW0]; exact ((Below.refl _ _).alloc (Nat.le_refl _) _).alloc (by simp) _
  have x0 : Box W0 w.heap.size 37 #[.slice a ts.length cap] := by rw [hW0]; exact (Box.new _ _ _).alloc _
  have y0 : Box W0 (w.heap.size + 1) 41 (Em.cs ⟨al, tsE, pl, nt, t⟩ ⟨ta, tcap, ka, kc⟩) := by
    have := Box.new (w.alloc (.cells #[.slice a ts.length cap] 37)) 41 (Em.cs ⟨al, tsE, pl, nt, t⟩ ⟨ta, tcap, ka, kc⟩)
    rw [World.size_alloc] at this
    rw [hW0]; exact this
  have s0 := hS.on b0
  have t0 := hE.1.on b0
  obtain ⟨tl, tc⟩ := t0
  dsimp only at tl tc ⊢
  replace hW0 := hide hW0
  obtain ⟨q0, q1, q2, q3, q4, q5, q6, q7, q8, q9, q10⟩ := y0.eleven
  dsimp only at q1
  have xx := x0.one.1
  clear hE
  replace tc := hide tc
  go_enter Try.func31, Try.ntmps31
  go_upto_region 1 with fail
  dsimp only [Em.cs] at hW0
  rw [← unhide hW0]
  go_wp2_with fail
  go_loopw [12] (fun i wr => ∃ k : Nat, k ≤ tsE.length ∧ i = .int .i64 k ∧ Hid (hasB ts (tsE.take k) = true) ∧ Below W0.heap.size W0 wr) (fun i _ => tsE.length - (intOf i).toNat)
  case atStart => exact ⟨0, Nat.zero_le _, rfl, hide rfl, Below.refl _ _⟩
  case round =>
    obtain ⟨k, hk, rfl, hh, hb⟩ := hrel
    have hs0 := hb.size
    have sr := s0.on hb
    have cx := (x0.on hb x0.lt).one.1
    by_cases hlt : k < tsE.length
    · obtain ⟨t, ht⟩ : ∃ t, tsE[k]? = some t := ⟨_, List.getElem?_eq_getElem hlt⟩
      have htk := hide (show hasB ts (tsE.take (k + 1)) = (placeN (tnames ts) t.1).isSome by
        rw [List.take_add_one, ht, Option.toList_some, hasB_snoc, unhide hh, Bool.true_and])
      have hno := hide (fun h => hasB_no ts tsE k t ht h)
      rcases unhide tc with h0 | ⟨b, off, ea, hbn, hc⟩
      · rw [h0] at hlt; simp at hlt
      have hc0 : wr.cell? ⟨b, off + k, none⟩ = some (.string t.1) := (hb.cell (p := ⟨b, off + k, none⟩) hbn).trans (hc k t ht)
      clear hc ht
      subst ea
      have hkl : (k : Int) < tsE.length := by omega
      have cF := hide (find_c a cap ts t.1 wr sr)
      rcases hq : placeN (tnames ts) t.1 with _ | j
      · have hr := unhide hno hq
        rw [hq] at cF
        clear htk hno hq
        replace hr := hide hr
        go_wp2_with fail
        refine (unhide cF).mono ?_
        rintro e2 w1 ⟨x, l, a', c', rfl, hb1⟩
        go_wp2_with fail
        go_ret
        exact ⟨by rw [unhide hr]; rfl, b0.trans ((hb.trans ((hb1.mono hb.size).alloc (Nat.le_trans hb.size hb1.size) _)).mono b0.size)⟩
      · rw [hq] at cF htk
        clear hno hq
        go_wp2_with fail
        refine (unhide cF).mono ?_
        rintro e2 w1 ⟨x, l, a', c', rfl, hb1⟩
        go_wp2_with fail
        go_roundw
        case rel => exact ⟨k + 1, by omega, by go_num, hide (by rw [unhide htk]; rfl), hb.trans ((hb1.mono hb.size).alloc (Nat.le_trans hb.size hb1.size) _)⟩
        case measure => simp [intOf]; omega
    · have hke : tsE.take k = tsE := List.take_of_length_le (by omega)
      rw [hke] at hh
      clear hke
      go_wp2_with fail
      go_ret
      exact ⟨by rw [unhide hh]; rfl, b0.trans (hb.mono b0.size)⟩
end Go.Proofs.Ytllpigbmkhanjaa
