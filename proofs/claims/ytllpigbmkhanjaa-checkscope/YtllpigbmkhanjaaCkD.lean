/-
  Package check: a field's kind of the first element of an alias; the kind of a condition.
-/
import Derived.Test.YtllpigbmkhanjaaCkC
namespace Go.Proofs.Ytllpigbmkhanjaa
open Go.RowKit Go.Shelf

attribute [local go_sem] Oper.semAt_some

theorem find_take {es : List Em} {p : Em → Bool} {k : Nat} {e : Em} (h : ∀ x ∈ es.take k, p x = false) (he : es[k]? = some e) (hp : p e = true) : es.find? p = some e := by
  have hlt : k < es.length := (List.getElem?_eq_some_iff.1 he).1
  have e1 : es = es.take k ++ (e :: es.drop (k + 1)) := by
    have := List.take_append_drop (k + 1) es
    rw [List.take_add_one, he, Option.toList_some, List.append_assoc] at this
    exact this.symm
  rw [e1, List.find?_append, List.find?_eq_none.2 (fun x hx => by simp [h x hx])]
  simp [hp]
def noAl (es : List Em) (al : ByteArray) : Prop := ∀ x ∈ es, (x.al.1.toList == al.toList) = false

theorem ems_one (W : World) (e : Em) (p : Pl) (h : EmIn (W.alloc (.cells (e.cs p) 41)).heap.size (W.alloc (.cells (e.cs p) 41)) e p) :
    Ems (W.alloc (.cells (e.cs p) 41)).heap.size (W.alloc (.cells (e.cs p) 41)) (some ⟨W.heap.size, 0, none⟩) [e] := by
  refine ⟨by simp, .inr ⟨W.heap.size, 0, fun _ => p, rfl, by simp, fun j x hx => ?_⟩⟩
  cases j with
  | zero =>
    simp at hx; subst hx
    refine ⟨fun i u hu => ?_, h⟩
    have := (Box.new W 41 (e.cs p)).at i hu
    simpa using this
  | succ j => simp at hx

set_option maxRecDepth 100000 in
set_option maxHeartbeats 4000000 in
theorem scopeField_c (ea sa : Option Addr) (ec sc : Nat) (ts : List Ty) (es : List Em) (al nm : ByteArray) (w : World) (hS : Schm w.heap.size w sa ts) (hE : Ems w.heap.size w ea es) :
    Calls Try.prog 24 #[.agg #[.slice sa ts.length sc, .slice ea es.length ec], .string al, .string nm] w fun r W' => r = .returned (fieldK ts es al nm).v ∧ Below w.heap.size w W' := by
  obtain ⟨W0, hW0⟩ : ∃ W0, W0 = w.alloc (.cells #[.slice sa ts.length sc, .slice ea es.length ec] 57) := ⟨_, rfl⟩
  have b0 : Below w.heap.size w W0 := by rw [hW0]; exact (Below.refl _ _).alloc (Nat.le_refl _) _
  have x0 : Box W0 w.heap.size 57 #[.slice sa ts.length sc, .slice ea es.length ec] := by rw [hW0]; exact Box.new _ _ _
  have s0 := hS.on b0
  have e0 := hE.on b0
  have hel := hE.1
  obtain ⟨c0, c1⟩ := x0.two
  go_enter Try.func24, Try.ntmps24
  go_upto_region 1 with fail
  rw [← hW0]
  clear hW0 hS hE
  go_wp2_with fail
  go_loopw [13] (fun i wr => ∃ k : Nat, k ≤ es.length ∧ i = .int .i64 k ∧ Hid (noAl (es.take k) al) ∧ Below W0.heap.size W0 wr) (fun i _ => es.length - (intOf i).toNat)
  case atStart => exact ⟨0, Nat.zero_le _, rfl, hide (by intro x hx; simp at hx), Below.refl _ _⟩
  case round =>
    obtain ⟨k, hk, rfl, hh, hb⟩ := hrel
    have hs0 := hb.size
    by_cases hlt : k < es.length
    · obtain ⟨e, he⟩ : ∃ e, es[k]? = some e := ⟨_, List.getElem?_eq_getElem hlt⟩
      have hfd := hide (show ∀ h : (e.al.1.toList == al.toList) = true, es.find? (fun x => x.al.1.toList == al.toList) = some e from fun h => find_take (unhide hh) he h)
      have hst := hide (show ∀ h : (e.al.1.toList == al.toList) = false, noAl (es.take (k + 1)) al from fun h x hx => by
        rw [List.take_add_one, he, Option.toList_some] at hx
        rcases List.mem_append.1 hx with h1 | h1
        · exact unhide hh x h1
        · rw [List.mem_singleton.1 h1]; exact h)
      obtain ⟨b, off, p, ea1, hbn, hcs, hin⟩ := e0.at he
      clear he
      obtain ⟨al', tsE, pl, nt, t⟩ := e
      obtain ⟨ta, tcap, ka, kc⟩ := p
      subst ea1
      dsimp only at hfd hst
      replace hcs : ∀ (i : Nat) u, (Em.cs ⟨al', tsE, pl, nt, t⟩ ⟨ta, tcap, ka, kc⟩)[i]? = some u → wr.cell? ⟨b, off + k * 11 + i, none⟩ = some u := fun i u hu => (hb.cell (p := ⟨b, off + k * 11 + i, none⟩) hbn).trans (hcs i u hu)
      have hd0 := hcs 0 _ rfl
      have hd1 := hcs 1 _ rfl
      have hd2 := hcs 2 _ rfl
      have hd3 := hcs 3 _ rfl
      have hd4 := hcs 4 _ rfl
      have hd5 := hcs 5 _ rfl
      have hd6 := hcs 6 _ rfl
      have hd7 := hcs 7 _ rfl
      have hd8 := hcs 8 _ rfl
      have hd9 := hcs 9 _ rfl
      have hd10 := hcs 10 _ rfl
      rw [Nat.add_zero] at hd0
      clear hcs
      obtain ⟨Wk, hWk⟩ : ∃ Wk, Wk = wr.alloc (.cells (Em.cs ⟨al', tsE, pl, nt, t⟩ ⟨ta, tcap, ka, kc⟩) 41) := ⟨_, rfl⟩
      have bk : Below wr.heap.size wr Wk := by rw [hWk]; exact (Below.refl _ _).alloc (Nat.le_refl _) _
      have xk : Box Wk wr.heap.size 41 (Em.cs ⟨al', tsE, pl, nt, t⟩ ⟨ta, tcap, ka, kc⟩) := by rw [hWk]; exact Box.new _ _ _
      have hkl : (k : Int) < es.length := by omega
      have bW := hb.trans (bk.mono hs0)
      go_upto_region 4 with fail
      rw [← hWk]
      clear hd0 hd1 hd2 hd3 hd4 hd5 hd6 hd7 hd8 hd9 hd10
      obtain ⟨q0, q1, q2, q3, q4, q5, q6, q7, q8, q9, q10⟩ := xk.eleven
      dsimp only at q0 q1 q2 q3 q4 q5 q6 q7 q8 q9 q10
      obtain ⟨p0, p1⟩ := ((x0.on hb x0.lt).on bk (by have := x0.lt; omega)).two
      replace hWk := hide hWk
      cases hz : (al'.1.toList == al.toList)
      · have hnx := hide (unhide hst hz)
        clear hfd hst
        go_wp2_with fail
        go_roundw
        case rel => exact ⟨k + 1, by omega, by go_num, hnx, bW⟩
        case measure => simp [intOf]; omega
      · have hR := hide (show fieldK ts es al nm = oneP (fksP ts nm [⟨al', tsE, pl, nt, t⟩]) by
          unfold fieldK; rw [unhide hfd hz])
        clear hfd hst
        go_wp2_with fail
        have b1 : Below Wk.heap.size Wk (Wk.alloc (.cells (Em.cs ⟨al', tsE, pl, nt, t⟩ ⟨ta, tcap, ka, kc⟩) 41)) := (Below.refl _ _).alloc (Nat.le_refl _) _
        have i0 := ((hin.on bW).on b1)
        have bw1 := bW.trans (b1.mono (Nat.le_trans hs0 bk.size))
        have s1 := s0.on bw1
        have e1 : Ems (Wk.alloc (.cells (Em.cs ⟨al', tsE, pl, nt, t⟩ ⟨ta, tcap, ka, kc⟩) 41)).heap.size (Wk.alloc (.cells (Em.cs ⟨al', tsE, pl, nt, t⟩ ⟨ta, tcap, ka, kc⟩) 41)) (some ⟨Wk.heap.size, 0, none⟩) [⟨al', tsE, pl, nt, t⟩] := ems_one _ _ _ i0
        refine (fieldKinds_c _ sa 1 sc ts nm _ _ s1 e1).mono ?_
        rintro r w1 ⟨lb, rfl, hg, hb1⟩
        go_wp2_with fail
        refine (one_c _ _ _ _ hg).mono ?_
        rintro r w2 ⟨rfl, hb2⟩
        go_wp2_with fail
        go_ret2
        exact ⟨by rw [unhide hR]; rfl, b0.trans ((bw1.trans ((hb1.trans (hb2.mono hb1.size)).mono bw1.size)).mono b0.size)⟩
    · have hke := hide (show es.take k = es from List.take_of_length_le (by omega))
      have hR := hide (show fieldK ts es al nm = (0, 13) by
        unfold fieldK
        rw [List.find?_eq_none.2 (fun x hx => by have := unhide hh; rw [unhide hke] at this; simp [this x hx])])
      go_wp2_with fail
      go_ret2
      exact ⟨by rw [unhide hR]; rfl, b0.trans (hb.mono b0.size)⟩

theorem Schm.sm {n₀ : Nat} {A B : World} (h : Sm n₀ A B) {a : Option Addr} {ts : List Ty} (k : Schm n₀ A a ts) : Schm n₀ B a ts := by
  refine ⟨?_, k.few, k.fld⟩
  rcases k.typs with e | ⟨b, off, e, hb, hc⟩
  · exact .inl e
  · refine .inr ⟨b, off, e, hb, fun j hj => ?_⟩
    obtain ⟨h1, a', c', h2, h3, h4⟩ := hc j hj
    refine ⟨h.cell hb h1, a', c', h.cell hb h2, ?_, h4⟩
    rcases h3 with e | ⟨b, off, e, hb, hc⟩
    · exact .inl e
    · exact .inr ⟨b, off, e, hb, fun j hj => ⟨h.cell hb (hc j hj).1, h.cell hb (hc j hj).2⟩⟩
theorem Schm.mono {n₀ n₁ : Nat} (h : n₀ ≤ n₁) {A : World} {a : Option Addr} {ts : List Ty} (k : Schm n₀ A a ts) : Schm n₁ A a ts := ⟨k.typs.mono h, k.few, k.fld⟩

set_option maxRecDepth 100000 in
set_option maxHeartbeats 4000000 in
theorem kindNode (ea sa : Option Addr) (ec sc : Nat) (ts : List Ty) (es : List Em) (n₀ : Nat) (W0 : World) (hS : Schm n₀ W0 sa ts) (hE : Ems n₀ W0 ea es) (a : Option Addr) (ks : List Tree) (hL : Lies n₀ W0 a ks)
    (hK : ks = [] ∨ ∃ (b off : Nat) (f : Nat → Option Addr × Nat), a = some ⟨b, off, none⟩ ∧ b < n₀ ∧ (∀ j t, ks[j]? = some t → ∀ i u, (t.dat.cs (f j).1 t.kids.length (f j).2)[i]? = some u → W0.cell? ⟨b, off + j * 7 + i, none⟩ = some u) ∧ ∀ (j : Nat) t, ks[j]? = some t → KindC n₀ W0 (.agg #[.slice sa ts.length sc, .slice ea es.length ec]) ts es (f j).1 t.kids) :
    KindC n₀ W0 (.agg #[.slice sa ts.length sc, .slice ea es.length ec]) ts es a ks := by
  intro d cap w hs hn
  obtain ⟨W1, hW1⟩ : ∃ W1, W1 = (w.alloc (.cells #[.slice sa ts.length sc, .slice ea es.length ec] 57)).alloc (.cells (d.cs a ks.length cap) 28) := ⟨_, rfl⟩
  have b1 : Below w.heap.size w W1 := by rw [hW1]; exact ((Below.refl _ _).alloc (Nat.le_refl _) _).alloc (by simp) _
  have x1 : Box W1 w.heap.size 57 #[.slice sa ts.length sc, .slice ea es.length ec] := by rw [hW1]; exact (Box.new _ _ _).alloc _
  have y1 : Box W1 (w.heap.size + 1) 28 (d.cs a ks.length cap) := by
    have := Box.new (w.alloc (.cells #[.slice sa ts.length sc, .slice ea es.length ec] 57)) 28 (d.cs a ks.length cap)
    rw [World.size_alloc] at this
    rw [hW1]; exact this
  have sm1 := hs.trans (Sm.of_below (b1.mono hn))
  have hn1 := Nat.le_trans hn b1.size
  have s1 := (hS.sm sm1).mono hn1
  have e1 := (hE.sm sm1).mono hn1
  obtain ⟨op, k, n, s, al, fd⟩ := d
  obtain ⟨q0, q1, q2, q3, q4, q5, q6⟩ := y1.seven
  obtain ⟨p0, p1⟩ := x1.two
  dsimp only at q0 q1 q2 q3 q4 q5 q6
  replace hK := hide hK
  go_enter Try.func14, Try.ntmps14
  go_upto_region 1 with fail
  rw [← hW1]
  replace hW1 := hide hW1
  by_cases h1 : op = 1
  · subst h1
    have hR := hide (show kindT ts es (.mk ⟨1, k, n, s, al, fd⟩ ks) = (k, 0) by simp [kindT])
    go_wp2_with fail
    go_ret2
    exact ⟨by rw [unhide hR]; rfl, b1⟩
  by_cases h2 : op = 2
  · subst h2
    have hR := hide (show kindT ts es (.mk ⟨2, k, n, s, al, fd⟩ ks) = fieldK ts es al.1 fd.1 by simp [kindT])
    have cF := hide (scopeField_c ea sa ec sc ts es al.1 fd.1 W1 s1 e1)
    obtain ⟨R, hR2⟩ : ∃ R, R = fieldK ts es al.1 fd.1 := ⟨_, rfl⟩
    rw [← hR2] at hR cF
    clear hR2
    go_wp2_with fail
    refine (unhide cF).mono ?_
    rintro r w2 ⟨rfl, hb2⟩
    go_wp2_with fail
    go_ret2
    exact ⟨by rw [unhide hR]; rfl, b1.trans (hb2.mono b1.size)⟩
  have hR := hide (show kindT ts es (.mk ⟨op, k, n, s, al, fd⟩ ks) = if (oneP (kindL ts es ks)).2 ≠ 0 then (0, (oneP (kindL ts es ks)).2) else resP op (oneP (kindL ts es ks)).1 by simp only [kindT, h1, h2, if_false])
  have e1' : (op == 1) = false := by simp [h1]
  have e2' : (op == 2) = false := by simp [h2]
  have cK := hide (kinds_c (.slice sa ts.length sc) (.slice ea es.length ec) ts es a cap ks n₀ W0 hL (unhide hK) W1 sm1 hn1)
  rw [← kindL_map] at cK
  obtain ⟨⟨o1, o2⟩, hO⟩ : ∃ R, R = oneP (kindL ts es ks) := ⟨_, rfl⟩
  rw [← hO] at hR
  replace hO := hide hO
  clear h1 h2 q1 q2 q3 q4 q5
  go_wp2_with fail
  refine (unhide cK).mono ?_
  rintro r w2 ⟨lb, rfl, hg, hb2⟩
  have c1 := hide (one_c _ _ _ _ hg)
  rw [← unhide hO] at c1
  clear hg
  have cq : w2.cell? ⟨w.heap.size + 1, 0, none⟩ = some (.int .i64 op) := (hb2.cell (p := ⟨w.heap.size + 1, 0, none⟩) y1.lt).trans q0
  have hszY := y1.lt
  go_wp2_with fail
  refine (unhide c1).mono ?_
  rintro r w3 ⟨rfl, hb3⟩
  have b3 := b1.trans ((hb2.trans (hb3.mono hb2.size)).mono b1.size)
  have cq3 : w3.cell? ⟨w.heap.size + 1, 0, none⟩ = some (.int .i64 op) := (hb3.cell (p := ⟨w.heap.size + 1, 0, none⟩) (Nat.lt_of_lt_of_le hszY hb2.size)).trans cq
  clear cq q0 q6
  by_cases hz : o2 = 0
  · subst hz
    have hR2 := hide ((unhide hR).trans (if_neg (by simp)))
    have eO : KR.v (o1, 0) = .tuple #[.int .i64 o1, .nilIface] := rfl
    rw [eO]
    clear hR
    go_wp2_with fail
    refine (result_c op o1 w3).mono ?_
    rintro r w4 ⟨rfl, rfl⟩
    go_wp2_with fail
    go_ret2
    exact ⟨by rw [unhide hR2]; rfl, b3⟩
  · have hR2 := hide ((unhide hR).trans (if_pos hz))
    have eO : KR.v (o1, o2) = .tuple #[.int .i64 o1, errV o2] := by simp [KR.v, encK, errO, hz]
    have eO2 : KR.v (0, o2) = .tuple #[.int .i64 0, errV o2] := by simp [KR.v, encK, errO, hz]
    rw [eO]
    replace eO2 := hide eO2
    clear hR hz eO
    go_wp2_with fail
    go_ret2
    exact ⟨by rw [unhide hR2, unhide eO2]; rfl, b3⟩

theorem kind_all (ea sa : Option Addr) (ec sc : Nat) (ts : List Ty) (es : List Em) (n₀ : Nat) (W0 : World) (hS : Schm n₀ W0 sa ts) (hE : Ems n₀ W0 ea es) (a : Option Addr) (ks : List Tree) (hL : Lies n₀ W0 a ks) :
    KindC n₀ W0 (.agg #[.slice sa ts.length sc, .slice ea es.length ec]) ts es a ks := by
  induction hL with
  | nil a => exact kindNode ea sa ec sc ts es n₀ W0 hS hE a [] (.nil a) (.inl rfl)
  | row b off ks f hl hb hc hk ih => exact kindNode ea sa ec sc ts es n₀ W0 hS hE _ ks (.row b off ks f hl hb hc hk) (.inr ⟨b, off, f, rfl, hb, hc, ih⟩)

/-- What scope's kind does with a condition. -/
theorem kind14_c (ea sa : Option Addr) (ec sc : Nat) (ts : List Ty) (es : List Em) (a : Option Addr) (cap : Nat) (t : Tree) (w : World) (hS : Schm w.heap.size w sa ts) (hE : Ems w.heap.size w ea es) (hL : Lies w.heap.size w a t.kids) :
    Calls Try.prog 14 #[.agg #[.slice sa ts.length sc, .slice ea es.length ec], t.dat.v a t.kids.length cap] w fun r W' => r = .returned (kindT ts es t).v ∧ Below w.heap.size w W' := by
  obtain ⟨d, ks⟩ := t
  exact kind_all ea sa ec sc ts es _ w hS hE a ks hL d cap w (Sm.refl _ _) (Nat.le_refl _)
end Go.Proofs.Ytllpigbmkhanjaa
