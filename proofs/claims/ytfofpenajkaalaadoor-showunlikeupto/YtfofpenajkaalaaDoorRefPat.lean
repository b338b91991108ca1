/-
  What the document's IsPattern answers: for every pattern that lies, in whatever world; nothing that lay is turned.
-/
import Derived.Test.YtfofpenajkaalaaDoorRefNodes
namespace Go.Proofs.YtfofpenajkaalaaDoor
open Go.RowKit Go.Shelf

theorem patB_row {q : Pt} (h : rowB q.es = false) : patB q = false := by simp [patB, h]
theorem rowB_part {es : List Em} (h : partB true es = false) : rowB es = false := by simp [rowB, h]
/-- How the element ahead of place i stands: the row's end counts as a Not. -/
def ntAt (es : List Em) (i : Nat) : Bool := match i with | 0 => true | k + 1 => match es[k]? with | some e => e.nt | none => true
theorem partK_take (es : List Em) (i : Nat) (e : Em) (he : es[i]? = some e) (h : partK true (es.take i) = some (ntAt es i)) :
    partK true (es.take (i + 1)) = if ntAt es i && e.nt then none else some e.nt := by
  have hi : i < es.length := (List.getElem?_eq_some_iff.1 he).1
  have e1 : es.take (i + 1) = es.take i ++ [e] := by rw [List.take_succ_eq_append_getElem hi]; simp [List.getElem?_eq_getElem hi] at he; rw [he]
  rw [e1, partK_snoc, h]; rfl
theorem partB_first {es : List Em} {e : Em} (he : es[0]? = some e) (h : e.nt = true) : partB true es = false := by
  cases es with
  | nil => simp at he
  | cons x es => simp at he; subst he; simp [partB, h]
theorem partB_last {es : List Em} {e : Em} (he : es[es.length - 1]? = some e) (h : e.nt = true) : partB true es = false := by
  have hi : es.length - 1 < es.length := (List.getElem?_eq_some_iff.1 he).1
  have e1 : es = es.take (es.length - 1) ++ [e] := by
    conv => lhs; rw [← List.take_length (l := es), show es.length = es.length - 1 + 1 by omega, List.take_succ_eq_append_getElem hi]
    simp [List.getElem?_eq_getElem hi] at he; rw [he]
  rw [partB_of, e1, partK_snoc]
  cases partK true (es.take (es.length - 1)) with
  | none => rfl
  | some m => cases m <;> simp [h]
/-- What the document asks of the element at i, ahead of its types and its condition. -/
def headB (es : List Em) (i : Nat) (e : Em) : Bool := nameB e.al.1 && !anyAl (es.take i) e.al.1 && decide (1 ≤ e.ts.length) && decide (e.ts.length ≤ 3) && riseB (e.ts.map (·.1)) && !(e.pl && e.nt) && !(decide (0 < i) && e.nt && ntAt es i)
theorem headB_no {es : List Em} {i : Nat} {e : Em} (he : es[i]? = some e) (hp : partK true (es.take i) = some (ntAt es i)) (h : headB es i e = false) : rowB es = false := by
  have hi : i < es.length := (List.getElem?_eq_some_iff.1 he).1
  have key : rowAt es i = false ∨ (decide (0 < i) && e.nt && ntAt es i) = true := by
    have e1 : rowAt es i = (elemB e && !anyAl (es.take i) e.al.1) := by rw [rowAt, he]
    rw [e1, elemB, typesB]
    unfold headB at h
    revert h
    cases nameB e.al.1 <;> cases anyAl (es.take i) e.al.1 <;> cases decide (1 ≤ e.ts.length) <;> cases decide (e.ts.length ≤ 3) <;> cases riseB (e.ts.map (·.1)) <;> cases (e.pl && e.nt) <;> simp
    intro h1 h2 h3
    exact .inr ⟨⟨h1, h2⟩, h3⟩
  rcases key with h1 | h1
  · unfold rowB; rw [rowTo_no es i hi h1, Bool.and_false]
  · apply rowB_part
    apply partK_no true es (i + 1)
    rw [partK_take es i e he hp]
    simp only [Bool.and_eq_true, decide_eq_true_eq] at h1
    rw [if_pos (by rw [h1.1.2, h1.2]; rfl)]
/-- The rest that is asked of an element. -/
def tailB (e : Em) : Bool := !anyNo e.ts && (sameT e.t (.mk d0 []) || isT e.t)
theorem row_step {es : List Em} {i : Nat} {e : Em} (he : es[i]? = some e) (h : headB es i e = true) : rowAt es i = tailB e := by
  have e1 : rowAt es i = (elemB e && !anyAl (es.take i) e.al.1) := by rw [rowAt, he]
  rw [e1, elemB, typesB, tailB]
  unfold headB at h
  revert h
  cases nameB e.al.1 <;> cases anyAl (es.take i) e.al.1 <;> cases decide (1 ≤ e.ts.length) <;> cases decide (e.ts.length ≤ 3) <;> cases riseB (e.ts.map (·.1)) <;> cases (e.pl && e.nt) <;> simp
theorem part_step {es : List Em} {i : Nat} {e : Em} (he : es[i]? = some e) (h0 : ∀ x, es[0]? = some x → x.nt = false) (hp : partK true (es.take i) = some (ntAt es i)) (h : headB es i e = true) : partK true (es.take (i + 1)) = some (ntAt es (i + 1)) := by
  rw [partK_take es i e he hp]
  have e2 : ntAt es (i + 1) = e.nt := by simp [ntAt, he]
  rw [e2]
  have hn : (ntAt es i && e.nt) = false := by
    cases i with
    | zero => rw [h0 e he, Bool.and_false]
    | succ k =>
      unfold headB at h
      simp only [Bool.and_eq_true, Bool.not_eq_true', decide_eq_true_eq] at h
      have := h.2
      simp only [Nat.succ_pos, decide_true, Bool.true_and] at this
      rw [Bool.and_comm]; exact this
  rw [hn]; rfl
theorem part_done {es : List Em} (hne : 0 < es.length) (hl : ∀ x, es[es.length - 1]? = some x → x.nt = false) (hp : partK true es = some (ntAt es es.length)) : partB true es = true := by
  rw [partB_of, hp]
  obtain ⟨k, hk⟩ : ∃ k, es.length = k + 1 := ⟨es.length - 1, by omega⟩
  rw [hk] at hl ⊢
  have hx : es[k]? = some es[k] := List.getElem?_eq_getElem (by omega)
  have := hl es[k] (by rw [Nat.add_sub_cancel]; exact hx)
  simp [ntAt, hx, this]

set_option maxRecDepth 100000 in
set_option maxHeartbeats 8000000 in
theorem refPat_c (q : Pt) (a : Option Addr) (cap : Nat) (w : World) (hE : Ems w.heap.size w a q.es) :
    Calls Tryd.prog 16 #[q.v a cap] w fun r w' => r = .returned (.bool (patB q)) ∧ Below w.heap.size w w' := by
  obtain ⟨W, hW⟩ : ∃ W, W = w.alloc (.cells (q.cs a cap) 29) := ⟨_, rfl⟩
  have bW : Below w.heap.size w W := by rw [hW]; exact (Below.refl _ _).alloc (Nat.le_refl _) _
  have xb : Box W w.heap.size 29 (q.cs a cap) := by rw [hW]; exact Box.new _ _ _
  have hlen := hE.1
  have hEW := hE.on bW
  obtain ⟨h0, h1, h2, h3⟩ := xb.four
  have hnm := q.nm.2
  obtain ⟨es, wi, nm, any⟩ := q
  simp only at hE hlen h0 h1 h2 h3 hEW hnm
  replace hE := hide hE
  go_enter Tryd.func16, Tryd.ntmps16
  go_upto_region 1 with fail
  rw [show Obj.cells #[Value.slice a es.length cap, .int .i64 wi, .string nm.1, .bool any] 29 = Obj.cells (Pt.cs ⟨es, wi, nm, any⟩ a cap) 29 from rfl, ← hW]
  clear hW
  by_cases c1 : 1 ≤ es.length
  case neg =>
    have e0 : es = [] := List.eq_nil_of_length_eq_zero (by omega)
    have H := hide (show patB ⟨es, wi, nm, any⟩ = false from patB_row (by simp only; rw [e0]; rfl))
    have e1 : (es.length : Int) < 1 := by omega
    clear c1 e0
    replace hEW := hide hEW
    go_wp2_with fail
    go_ret
    exact ⟨by rw [unhide H]; rfl, bW⟩
  have e1 : ¬ (es.length : Int) < 1 := by omega
  by_cases c2 : es.length ≤ 5
  case neg =>
    have H := hide (show patB ⟨es, wi, nm, any⟩ = false from patB_row (by simp only [rowB]; rw [decide_eq_false c2]; rfl))
    have e2 : (5 : Int) < es.length := by omega
    clear c2
    replace hEW := hide hEW
    go_wp2_with fail
    go_ret
    exact ⟨by rw [unhide H]; rfl, bW⟩
  have e2 : ¬ (5 : Int) < es.length := by omega
  by_cases c3 : 0 ≤ wi
  case neg =>
    have H := hide (show patB ⟨es, wi, nm, any⟩ = false by simp [patB, c3])
    have e3 : wi < 0 := by omega
    clear c3
    replace hEW := hide hEW
    go_wp2_with fail
    go_ret
    exact ⟨by rw [unhide H]; rfl, bW⟩
  have e3 : ¬ wi < 0 := by omega
  by_cases c4 : wi ≤ 1000
  case neg =>
    have H := hide (show patB ⟨es, wi, nm, any⟩ = false by simp [patB, c4])
    have e4 : 1000 < wi := by omega
    clear c4
    replace hEW := hide hEW
    go_wp2_with fail
    go_ret
    exact ⟨by rw [unhide H]; rfl, bW⟩
  have e4 : ¬ 1000 < wi := by omega
  obtain ⟨ef, hef⟩ : ∃ e, es[0]? = some e := ⟨_, List.getElem?_eq_getElem (by omega)⟩
  obtain ⟨el, hel⟩ : ∃ e, es[es.length - 1]? = some e := ⟨_, List.getElem?_eq_getElem (by omega)⟩
  obtain ⟨b, off, pf, ea, hbn, hcf, -⟩ := hEW.at hef
  obtain ⟨b', off', pl, ea', -, hcl, -⟩ := hEW.at hel
  rw [ea] at ea'
  simp only [Option.some.injEq, Addr.mk.injEq] at ea'
  obtain ⟨rfl, rfl, -⟩ := ea'
  have f3 := hcf 3 (.bool ef.nt) rfl
  have l3 := hcl 3 (.bool el.nt) rfl
  rw [Nat.zero_mul, Nat.add_zero] at f3
  have Hf := hide hef
  have Hl := hide hel
  clear hef hel hcf hcl
  replace hEW := hide hEW
  subst ea
  have HP := hide (show (decide (0 ≤ wi) && decide (wi ≤ 1000)) = true by simp [c3, c4])
  clear c3 c4
  go_upto_region 2 with fail
  go_cut [52] (fun v wx => ∃ G : Bool, v = .bool G ∧ wx = W ∧ Hid (G = false → (nm.1.toList.isEmpty || nameB nm.1) = true ∧ ef.nt = false ∧ el.nt = false) ∧ Hid (G = true → patB ⟨es, wi, nm, any⟩ = false))
  case first =>
    have hk1 : (0 : Int) < es.length := by omega
    have hk2 : ((es.length : Int) - 1).toNat = es.length - 1 := by omega
    have hk3 : (es.length : Int) - 1 < es.length := by omega
    have hk4 : (0 : Int) ≤ (es.length : Int) - 1 := by omega
    have hn3 : ∀ x : List UInt8, (x == []) = x.isEmpty := fun x => by cases x <;> rfl
    have fin : ∀ (nmB : Bool), (nm.1.toList.isEmpty || nameB nm.1) = nmB → nmB = true → (ef.nt = true → patB ⟨es, wi, nm, any⟩ = false) ∧ (ef.nt = false → el.nt = true → patB ⟨es, wi, nm, any⟩ = false) := fun _ _ _ =>
      ⟨fun h => patB_row (rowB_part (partB_first (unhide Hf) h)), fun _ h => patB_row (rowB_part (partB_last (unhide Hl) h))⟩
    cases hne : nm.1.toList.isEmpty
    · have hne2 : (nm.1.toList == []) = false := by rw [hn3, hne]
      have cN : ∀ W, Calls Tryd.prog 30 #[.string nm.1] W fun e w' => e = .returned (.bool (nameB nm.1)) ∧ w' = W := fun W => refName_c nm.1 W hnm
      clear hn3
      cases hN : nameB nm.1
      · have H := hide (show patB ⟨es, wi, nm, any⟩ = false by simp only [patB]; rw [hne, hN, Bool.or_false, Bool.and_false])
        rw [hN] at cN
        clear hN fin
        go_wp2_with (go_at_call 30; refine (cN _).mono ?_; rintro e w4 ⟨rfl, rfl⟩)
        go_meet
        case rel => exact ⟨true, rfl, rfl, hide (fun h => by cases h), hide (fun _ => unhide H)⟩
      · obtain ⟨F1, F2⟩ := fin true (by rw [hne, hN]; rfl) rfl
        have HN := hide (show (nm.1.toList.isEmpty || nameB nm.1) = true by rw [hne, hN]; rfl)
        rw [hN] at cN
        clear hN fin
        replace F1 := hide F1
        replace F2 := hide F2
        cases c6 : ef.nt
        · rw [c6] at f3
          have K6 := hide c6
          cases c7 : el.nt
          · rw [c7] at l3
            have K7 := hide c7
            go_wp2_with (go_at_call 30; refine (cN _).mono ?_; rintro e w4 ⟨rfl, rfl⟩)
            go_meet
            case rel => exact ⟨false, rfl, rfl, hide (fun _ => ⟨unhide HN, unhide K6, unhide K7⟩), hide (fun h => by cases h)⟩
          · rw [c7] at l3
            have K7 := hide c7
            go_wp2_with (go_at_call 30; refine (cN _).mono ?_; rintro e w4 ⟨rfl, rfl⟩)
            go_meet
            case rel => exact ⟨true, rfl, rfl, hide (fun h => by cases h), hide (fun _ => unhide F2 (unhide K6) (unhide K7))⟩
        · rw [c6] at f3
          have K6 := hide c6
          go_wp2_with (go_at_call 30; refine (cN _).mono ?_; rintro e w4 ⟨rfl, rfl⟩)
          go_meet
          case rel => exact ⟨true, rfl, rfl, hide (fun h => by cases h), hide (fun _ => unhide F1 (unhide K6))⟩
    · have hne2 : (nm.1.toList == []) = true := by rw [hn3, hne]
      clear hn3
      obtain ⟨F1, F2⟩ := fin true (by rw [hne]; rfl) rfl
      have HN := hide (show (nm.1.toList.isEmpty || nameB nm.1) = true by rw [hne]; rfl)
      clear fin
      replace F1 := hide F1
      replace F2 := hide F2
      cases c6 : ef.nt
      · rw [c6] at f3
        have K6 := hide c6
        cases c7 : el.nt
        · rw [c7] at l3
          have K7 := hide c7
          go_wp2_with fail
          go_meet
          case rel => exact ⟨false, rfl, rfl, hide (fun _ => ⟨unhide HN, unhide K6, unhide K7⟩), hide (fun h => by cases h)⟩
        · rw [c7] at l3
          have K7 := hide c7
          go_wp2_with fail
          go_meet
          case rel => exact ⟨true, rfl, rfl, hide (fun h => by cases h), hide (fun _ => unhide F2 (unhide K6) (unhide K7))⟩
      · rw [c6] at f3
        have K6 := hide c6
        go_wp2_with fail
        go_meet
        case rel => exact ⟨true, rfl, rfl, hide (fun h => by cases h), hide (fun _ => unhide F1 (unhide K6))⟩
  case rest =>
  obtain ⟨G, rfl, rfl, hG0, hG1⟩ := hcut
  obtain ⟨V0, eV0⟩ : ∃ V0, V0 = wc := ⟨_, rfl⟩
  subst eV0
  clear e1 e2 e3 e4 f3 l3
  cases G
  case true =>
    have H := hide (unhide hG1 rfl)
    go_wp2_with fail
    go_ret
    exact ⟨by rw [unhide H]; rfl, bW⟩
  obtain ⟨hG2, hG3, hG4⟩ := unhide hG0 rfl
  have HQ := hide (show patB ⟨es, wi, nm, any⟩ = rowB es by simp only [patB]; rw [hG2, Bool.and_assoc (rowB es), unhide HP, Bool.and_true, Bool.and_true])
  have H0 := hide (show ∀ x, es[0]? = some x → x.nt = false from fun x hx => by rw [unhide Hf] at hx; cases hx; exact hG3)
  have HL := hide (show ∀ x, es[es.length - 1]? = some x → x.nt = false from fun x hx => by rw [unhide Hl] at hx; cases hx; exact hG4)
  clear hG0 hG1 hG2 hG3 hG4 HP Hf Hl
  go_upto_region 4 with fail
  go_wp2_with fail
  go_loopw [4] (fun vi wr => ∃ i : Nat, i ≤ es.length ∧ vi = .int .i64 i ∧ Hid (rowTo es i = true) ∧ Hid (partK true (es.take i) = some (ntAt es i)) ∧ Below V0.heap.size V0 wr) (fun vi _ => es.length - (intOf vi).toNat)
  case atStart => exact ⟨0, Nat.zero_le _, rfl, hide rfl, hide rfl, Below.refl _ _⟩
  case round =>
    obtain ⟨i, hi, rfl, hrow, hpart, hB⟩ := hrel
    obtain ⟨Wr, eWr⟩ : ∃ Wr, Wr = wr := ⟨_, rfl⟩
    subst eWr
    have xr := xb.on hB xb.lt
    have br : Below w.heap.size w Wr := bW.trans (hB.mono bW.size)
    clear h0 h1 h2 h3
    obtain ⟨h0, h1, h2, h3⟩ := xr.four
    by_cases hlt : i < es.length
    · obtain ⟨e, he⟩ : ∃ e, es[i]? = some e := ⟨_, List.getElem?_eq_getElem hlt⟩
      have hEr := (unhide hEW).on hB
      obtain ⟨b2, off2, p, ea2, hbn2, hcs, hin⟩ := hEr.at he
      simp only [Option.some.injEq, Addr.mk.injEq] at ea2
      obtain ⟨rfl, rfl, -⟩ := ea2
      have hd0 := hcs 0 _ rfl
      have hd1 := hcs 1 _ rfl
      have hd2 := hcs 2 _ rfl
      have hd3 := hcs 3 _ rfl
      have hd4 := hcs 4 _ rfl
      have hd5 := hcs 5 _ rfl
      have hd6 := hcs 6 _ rfl
      have hd7 := hcs 7 _ rfl
      have hd8 := hcs 8 _ rfl
      have hd9 := hcs 9 _ rfl
      have hd10 := hcs 10 _ rfl
      rw [Nat.add_zero] at hd0
      clear hcs
      have hkl : (i : Int) < es.length := by omega
      have hk0 : (0 : Int) ≤ i := by omega
      have He := hide he
      clear he
      replace hEr := hide hEr
      replace hin := hide hin
      have HPV := hide (show ∀ k, i = k + 1 → Wr.cell? ⟨b, off + k * 11 + 3, none⟩ = some (.bool (ntAt es i)) from fun k hk => by
        subst hk
        obtain ⟨x, hx⟩ : ∃ x, es[k]? = some x := ⟨_, List.getElem?_eq_getElem (by omega)⟩
        obtain ⟨b3, off3, p3, ea3, -, hc3, -⟩ := (unhide hEr).at hx
        simp only [Option.some.injEq, Addr.mk.injEq] at ea3
        obtain ⟨rfl, rfl, -⟩ := ea3
        have e1 : ntAt es (k + 1) = x.nt := by simp [ntAt, hx]
        rw [e1]; exact hc3 3 (.bool x.nt) rfl)
      obtain ⟨eal, ets, epl, ent, ⟨td, tk⟩⟩ := e
      go_upto_region 8 with fail
      obtain ⟨Wi, hWi⟩ : ∃ Wi, Wi = Wr.alloc (.cells (Em.cs ⟨eal, ets, epl, ent, .mk td tk⟩ p) 42) := ⟨_, rfl⟩
      have bi : Below Wr.heap.size Wr Wi := by rw [hWi]; exact (Below.refl _ _).alloc (Nat.le_refl _) _
      have xi : Box Wi Wr.heap.size 42 (Em.cs ⟨eal, ets, epl, ent, .mk td tk⟩ p) := by rw [hWi]; exact Box.new _ _ _
      rw [show Obj.cells #[Value.string eal.1, .slice p.ta ets.length p.tc, .bool epl, .bool ent, .int .i64 td.op, .int .i64 td.k, .int .i64 td.n, .string td.s.1, .string td.al.1, .string td.fd.1, .slice p.ka tk.length p.kc] 42 = Obj.cells (Em.cs ⟨eal, ets, epl, ent, .mk td tk⟩ p) 42 from rfl, ← hWi]
      clear hWi hd0 hd1 hd2 hd3 hd4 hd5 hd6 hd7 hd8 hd9 hd10
      have HPVi := hide (show ∀ k, i = k + 1 → Wi.cell? ⟨b, off + k * 11 + 3, none⟩ = some (.bool (ntAt es i)) from fun k hk => (bi.cell (p := ⟨b, off + k * 11 + 3, none⟩) hbn2).trans (unhide HPV k hk))
      have hbi : b < Wi.heap.size := Nat.lt_of_lt_of_le hbn2 bi.size
      clear HPV
      have hini := (unhide hin).on bi
      have hEi := (unhide hEr).on bi
      have yi := xr.on bi xr.lt
      have bEi : Below V0.heap.size V0 Wi := hB.trans (bi.mono hB.size)
      obtain ⟨d0', d1, d2, d3, -, -, -, -, -, -, -⟩ := xi.eleven
      obtain ⟨g0, -, -, -⟩ := yi.four
      have hal := eal.2
      obtain ⟨qN, hqN⟩ : ∃ x, x = nameB eal.1 := ⟨_, rfl⟩
      obtain ⟨qA, hqA⟩ : ∃ x, x = anyAl (es.take i) eal.1 := ⟨_, rfl⟩
      obtain ⟨qR, hqR⟩ : ∃ x, x = riseB (ets.map (·.1)) := ⟨_, rfl⟩
      obtain ⟨an, han⟩ : ∃ x, x = aliasN es eal.1 := ⟨_, rfl⟩
      have eA : (an != (i : Int)) = qA := by rw [han, hqA]; exact aliasN_own (unhide He)
      have cN : ∀ W, Calls Tryd.prog 30 #[.string eal.1] W fun r w' => r = .returned (.bool qN) ∧ w' = W := fun W => by rw [hqN]; exact refName_c eal.1 W hal
      have cA := hide (refAlias_c (some ⟨b, off, none⟩) cap eal.1 es Wi hEi)
      rw [← han] at cA
      have hT1 := hini.1.1
      have cR := hide (fun h3 : ets.length ≤ 3 => refRise17 p.ta ets.length p.tc (ets.map (·.1)) (by rw [List.length_map]; omega) Wi (hini.1.strs p.tc))
      rw [← hqR] at cR
      have HB := hide (show headB es i ⟨eal, ets, epl, ent, .mk td tk⟩ = (qN && !qA && decide (1 ≤ ets.length) && decide (ets.length ≤ 3) && qR && !(epl && ent) && !(decide (0 < i) && ent && ntAt es i)) by rw [hqN, hqA, hqR]; rfl)
      clear hqN hqA hqR han
      replace hini := hide hini
      replace hEi := hide hEi
      go_cut [118] (fun v wx => ∃ G : Bool, v = .bool G ∧ Below Wi.heap.size Wi wx ∧ Hid (G = !headB es i ⟨eal, ets, epl, ent, .mk td tk⟩))
      case first =>
        go_wp2_with fail
        refine (cN _).mono ?_
        rintro r w4 ⟨rfl, rfl⟩
        clear cN
        cases qN
        · go_wp2_with fail
          go_meet
          case rel => exact ⟨true, rfl, Below.refl _ _, hide (by rw [unhide HB]; rfl)⟩
        go_wp2_with fail
        refine (unhide cA).mono ?_
        rintro r w4 ⟨rfl, rfl⟩
        clear cA
        cases qA
        case true =>
          go_wp2_with fail
          go_meet
          case rel => exact ⟨true, rfl, Below.refl _ _, hide (by rw [unhide HB]; rfl)⟩
        by_cases c5 : 1 ≤ ets.length
        case neg =>
          have e5 : decide ((ets.length : Int) < 1) = true := by simp; omega
          have HG := hide (show headB es i ⟨eal, ets, epl, ent, .mk td tk⟩ = false by rw [unhide HB, decide_eq_false c5]; rfl)
          clear c5
          go_wp2_with fail
          go_meet
          case rel => exact ⟨true, rfl, Below.refl _ _, hide (by rw [unhide HG]; rfl)⟩
        have e5 : decide ((ets.length : Int) < 1) = false := by simp; omega
        by_cases c6 : ets.length ≤ 3
        case neg =>
          have e6 : decide ((3 : Int) < ets.length) = true := by simp; omega
          have HG := hide (show headB es i ⟨eal, ets, epl, ent, .mk td tk⟩ = false by rw [unhide HB, decide_eq_false c6, Bool.and_false]; rfl)
          clear c5 c6
          go_wp2_with fail
          go_meet
          case rel => exact ⟨true, rfl, Below.refl _ _, hide (by rw [unhide HG]; rfl)⟩
        have e6 : decide ((3 : Int) < ets.length) = false := by simp; omega
        have HG := hide (show headB es i ⟨eal, ets, epl, ent, .mk td tk⟩ = (qR && !(epl && ent) && !(decide (0 < i) && ent && ntAt es i)) by rw [unhide HB, decide_eq_true c5, decide_eq_true c6]; rfl)
        have cR3 := hide (unhide cR c6)
        clear c5 c6 HB cR
        go_wp2_with fail
        refine (unhide cR3).mono ?_
        rintro r w5 ⟨rfl, hb5⟩
        clear cR3 d0' d1 d2 d3 g0
        have x5 := xi.on hb5 xi.lt
        have y5 := yi.on hb5 yi.lt
        obtain ⟨d0', d1, d2, d3, -, -, -, -, -, -, -⟩ := x5.eleven
        obtain ⟨g0, -, -, -⟩ := y5.four
        have HPV5 := hide (show ∀ k, i = k + 1 → w5.cell? ⟨b, off + k * 11 + 3, none⟩ = some (.bool (ntAt es i)) from fun k hk => (hb5.cell (p := ⟨b, off + k * 11 + 3, none⟩) hbi).trans (unhide HPVi k hk))
        clear HPVi
        cases qR
        · clear HPV5
          go_wp2_with fail
          go_meet
          case rel => exact ⟨true, rfl, hb5, hide (by rw [unhide HG]; rfl)⟩
        cases ent
        · cases epl
          all_goals
            clear HPV5
            cases i with
            | zero =>
              go_wp2_with fail
              go_meet
              case rel => exact ⟨false, rfl, hb5, hide (by rw [unhide HG]; rfl)⟩
            | succ k =>
              have e7 : (0 : Int) < ((k + 1 : Nat) : Int) := by omega
              have HG2 := hide (show headB es (k + 1) _ = true from (unhide HG).trans (by simp))
              clear HG
              go_wp2_with fail
              go_meet
              case rel => exact ⟨false, rfl, hb5, hide (by rw [unhide HG2]; rfl)⟩
        cases epl
        case true =>
          clear HPV5
          go_wp2_with fail
          go_meet
          case rel => exact ⟨true, rfl, hb5, hide (by rw [unhide HG]; rfl)⟩
        cases i with
        | zero =>
          clear HPV5
          go_wp2_with fail
          go_meet
          case rel => exact ⟨false, rfl, hb5, hide (by rw [unhide HG]; rfl)⟩
        | succ k =>
          have hp := unhide HPV5 k rfl
          obtain ⟨pv, hpv⟩ : ∃ x, x = ntAt es (k + 1) := ⟨_, rfl⟩
          have HG2 := hide (show headB es (k + 1) _ = !pv from (unhide HG).trans (by rw [hpv]; simp))
          rw [← hpv] at hp
          clear HG HPV5 hpv
          have e7 : (0 : Int) < ((k + 1 : Nat) : Int) := by omega
          have e8 : ((k + 1 : Nat) : Int) - 1 = (k : Int) := by omega
          have e9 : (k : Int) < es.length := by omega
          have e10 : (0 : Int) ≤ k := by omega
          go_wp2_with fail
          go_meet
          case rel => exact ⟨pv, rfl, hb5, hide (by rw [unhide HG2]; simp)⟩
      case rest =>
      obtain ⟨G, rfl, bx, hG⟩ := hcut
      have xw := xi.on bx xi.lt
      have yw := yi.on bx yi.lt
      have bEw : Below V0.heap.size V0 wc := bEi.trans (bx.mono bEi.size)
      have bww : Below w.heap.size w wc := bW.trans (bEw.mono bW.size)
      have hinw := (unhide hini).on bx
      clear hini hEi hin hEr d0' d1 d2 d3 g0 h0 h1 h2 h3 eA cN cA cR HB HPVi xi yi bi bEi
      cases G
      case true =>
        have H := hide (show patB ⟨es, wi, nm, any⟩ = false from (unhide HQ).trans (headB_no (unhide He) (unhide hpart) (by have := unhide hG; simpa using this)))
        replace hinw := hide hinw
        go_wp2_with fail
        go_ret
        exact ⟨by rw [unhide H]; rfl, bww⟩
      have HH := hide (show headB es i ⟨eal, ets, epl, ent, .mk td tk⟩ = true by have := unhide hG; simpa using this)
      clear hG
      have HT := hide (show rowTo es (i + 1) = tailB ⟨eal, ets, epl, ent, .mk td tk⟩ by rw [rowTo_succ, unhide hrow, Bool.true_and, row_step (unhide He) (unhide HH)])
      have Hno := hide (fun h : tailB ⟨eal, ets, epl, ent, .mk td tk⟩ = false => show patB ⟨es, wi, nm, any⟩ = false from (unhide HQ).trans (by
        unfold rowB; rw [rowTo_no es i hlt ((row_step (unhide He) (unhide HH)).trans h), Bool.and_false]))
      obtain ⟨d0', d1, d2, d3, d4, d5, d6, d7, d8, d9, d10⟩ := xw.eleven
      replace hinw := hide hinw
      go_upto_region 10 with fail
      have hle : ets.length ≤ 3 := by
        have := unhide HH
        unfold headB at this
        simp only [Bool.and_eq_true, decide_eq_true_eq] at this
        exact this.1.1.1.2
      go_wp2_with fail
      go_loop [6] (fun vk => ∃ k : Nat, k ≤ ets.length ∧ vk = .int .i64 k ∧ Hid (anyNo (ets.take k) = false)) (fun vk => ets.length - (intOf vk).toNat)
      case atStart => exact ⟨0, Nat.zero_le _, rfl, hide (by simp [anyNo])⟩
      case round =>
        obtain ⟨k, hk, rfl, hp⟩ := hrel
        by_cases hkt : k < ets.length
        · obtain ⟨t, ht⟩ : ∃ t, ets[k]? = some t := ⟨_, List.getElem?_eq_getElem hkt⟩
          have htk := hide (show anyNo (ets.take (k + 1)) = !nameB t.1 by
            have e1 : ets.take (k + 1) = ets.take k ++ [t] := by rw [List.take_succ_eq_append_getElem hkt]; simp [List.getElem?_eq_getElem hkt] at ht; rw [ht]
            have := unhide hp
            unfold anyNo at this ⊢
            rw [e1, List.any_append, this]; simp)
          have hmem := hide (List.mem_of_getElem? ht)
          rcases (unhide hinw).1.2 with h | ⟨b4, off4, ea4, hb4, hc4⟩
          · exfalso; replace h : ets = [] := h; rw [h] at hkt; simp at hkt
          have hct := hc4 k t ht
          replace ea4 : p.ta = some ⟨b4, off4, none⟩ := ea4
          clear hc4 ht
          rw [ea4] at d1
          have cN : ∀ W, Calls Tryd.prog 30 #[.string t.1] W fun r w' => r = .returned (.bool (nameB t.1)) ∧ w' = W := fun W => refName_c t.1 W t.2
          obtain ⟨qT, hqT⟩ : ∃ x, x = nameB t.1 := ⟨_, rfl⟩
          rw [← hqT] at cN htk
          have hk1 : (k : Int) < ets.length := by omega
          have hk2 : (0 : Int) ≤ k := by omega
          have hk3 : (k : Int) + 1 ≤ 3 := by omega
          have HqT := hide hqT
          clear hqT
          cases qT
          · have H := hide (show patB ⟨es, wi, nm, any⟩ = false from unhide Hno (by
              unfold tailB
              have : anyNo ets = true := List.any_eq_true.2 ⟨t, unhide hmem, by rw [← unhide HqT]; rfl⟩
              simp only
              rw [this]; rfl))
            go_wp2_with (go_at_call 30; refine (cN _).mono ?_; rintro r w4 ⟨rfl, rfl⟩)
            go_ret
            exact ⟨by rw [unhide H]; rfl, bww⟩
          · go_wp2_with (go_at_call 30; refine (cN _).mono ?_; rintro r w4 ⟨rfl, rfl⟩)
            go_round
            case rel => exact ⟨k + 1, by omega, by go_num, htk⟩
            case measure => simp [intOf]; omega
        · have hke := hide (show anyNo ets = false by
            have := unhide hp
            rwa [List.take_of_length_le (by omega)] at this)
          have hn' : ¬ (k : Int) < ets.length := by omega
          have hLw : Lies wc.heap.size wc p.ka tk := (unhide hinw).2
          have cS := hide (refSame_c td d0 p.kc 0 p.ka none tk [] wc hLw (Lies.nil none))
          obtain ⟨qS, hqS⟩ : ∃ x, x = sameT (.mk td tk) (.mk d0 []) := ⟨_, rfl⟩
          rw [← hqS] at cS
          have HqS := hide hqS
          clear hqS
          replace hLw := hide hLw
          go_wp2_with fail
          refine (unhide cS).mono ?_
          rintro r w6 ⟨rfl, hb6⟩
          clear cS
          have x6 := xw.on hb6 xw.lt
          have bE6 : Below V0.heap.size V0 w6 := bEw.trans (hb6.mono bEw.size)
          clear d0' d1 d2 d3 d4 d5 d6 d7 d8 d9 d10
          obtain ⟨d0', d1, d2, d3, d4, d5, d6, d7, d8, d9, d10⟩ := x6.eleven
          have HP2 := hide (part_step (unhide He) (unhide H0) (unhide hpart) (unhide HH))
          cases qS
          case true =>
            have HT2 := hide (show rowTo es (i + 1) = true by rw [unhide HT, tailB]; simp only; rw [unhide hke, ← unhide HqS]; rfl)
            go_wp2_with fail
            exact ⟨⟨i + 1, by omega, by go_num, HT2, HP2, bE6⟩, by simp [intOf]; omega⟩
          have cI := hide (refIsE_c td p.kc p.ka tk w6 ((unhide hLw).on hb6))
          obtain ⟨qI, hqI⟩ : ∃ x, x = isT (.mk td tk) := ⟨_, rfl⟩
          rw [← hqI] at cI
          have HqI := hide hqI
          clear hqI
          go_wp2_with fail
          refine (unhide cI).mono ?_
          rintro r w7 ⟨rfl, hb7⟩
          clear cI
          have bE7 : Below V0.heap.size V0 w7 := bE6.trans (hb7.mono bE6.size)
          cases qI
          · have H := hide (show patB ⟨es, wi, nm, any⟩ = false from unhide Hno (by unfold tailB; simp only; rw [← unhide HqS, ← unhide HqI]; simp))
            go_wp2_with fail
            go_ret
            exact ⟨by rw [unhide H]; rfl, bW.trans (bE7.mono bW.size)⟩
          · have HT2 := hide (show rowTo es (i + 1) = true by rw [unhide HT, tailB]; simp only; rw [unhide hke, ← unhide HqS, ← unhide HqI]; rfl)
            go_wp2_with fail
            exact ⟨⟨i + 1, by omega, by go_num, HT2, HP2, bE7⟩, by simp [intOf]; omega⟩
    · obtain rfl : i = es.length := by omega
      have H := hide (show patB ⟨es, wi, nm, any⟩ = true by
        rw [unhide HQ]
        have h1 := unhide hpart
        rw [List.take_length] at h1
        unfold rowB
        rw [decide_eq_true c2, part_done (by omega) (unhide HL) h1, unhide hrow]; rfl)
      have hn' : ¬ (es.length : Int) < es.length := by omega
      go_wp2_with fail
      go_ret
      exact ⟨by rw [unhide H]; rfl, br⟩

end Go.Proofs.YtfofpenajkaalaaDoor
