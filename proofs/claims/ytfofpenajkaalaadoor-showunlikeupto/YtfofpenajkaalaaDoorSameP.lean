/-
  What the document's SameTexts, SameElem and SamePattern answer: for all rows that lie, in whatever world; nothing that lay is turned.
-/
import Derived.Test.YtfofpenajkaalaaDoorRefSame
import Derived.Test.YtfofpenajkaalaaDoorPat
namespace Go.Proofs.YtfofpenajkaalaaDoor
open Go.RowKit

attribute [local go_sem] Oper.semAt_some

/-- Two rows alike, one by one. -/
def allZ {α β : Type} (f : α → β → Bool) : List α → List β → Bool
  | [], [] => true
  | x :: a, y :: b => f x y && allZ f a b
  | _, _ => false
theorem allZ_len {α β : Type} {f : α → β → Bool} : ∀ {a : List α} {b : List β}, allZ f a b = true → a.length = b.length
  | [], [], _ => rfl
  | x :: a, y :: b, h => by simp only [allZ, Bool.and_eq_true] at h; simp [allZ_len h.2]
theorem allZ_take {α β : Type} {f : α → β → Bool} : ∀ {a : List α} {b : List β}, allZ f a b = true → ∀ k, allZ f (a.take k) (b.take k) = true
  | [], [], _, k => by simp [allZ]
  | x :: a, y :: b, h, 0 => by simp [allZ]
  | x :: a, y :: b, h, k + 1 => by
    simp only [allZ, Bool.and_eq_true] at h
    simp [allZ, h.1, allZ_take h.2 k]
theorem allZ_no {α β : Type} {f : α → β → Bool} {a : List α} {b : List β} (k : Nat) (h : allZ f (a.take k) (b.take k) = false) : allZ f a b = false := by
  cases hq : allZ f a b
  · rfl
  · rw [allZ_take hq k] at h; cases h
theorem allZ_snoc {α β : Type} {f : α → β → Bool} : ∀ {a : List α} {b : List β} {k : Nat} {x : α} {y : β}, a[k]? = some x → b[k]? = some y → allZ f (a.take (k + 1)) (b.take (k + 1)) = (allZ f (a.take k) (b.take k) && f x y)
  | [], _, k, x, y, h, _ => by simp at h
  | _ :: _, [], k, x, y, _, h => by simp at h
  | x' :: a, y' :: b, 0, x, y, h, h' => by
    simp at h h'
    subst h h'
    simp [allZ]
  | x' :: a, y' :: b, k + 1, x, y, h, h' => by
    simp at h h'
    have := allZ_snoc (f := f) h h'
    simp only [List.take_succ_cons, allZ]
    rw [this, Bool.and_assoc]

def sameTx (a b : List Txt) : Bool := allZ (fun t u => t.1.toList == u.1.toList) a b

theorem Txts.at {n₀ : Nat} {W : World} {a : Option Addr} {ts : List Txt} (k : Txts n₀ W a ts) {j : Nat} {t : Txt} (ht : ts[j]? = some t) : ∃ b off, a = some ⟨b, off, none⟩ ∧ b < n₀ ∧ W.cell? ⟨b, off + j, none⟩ = some (.string t.1) := by
  rcases k.2 with h0 | ⟨b, off, e, hb, hc⟩
  · rw [h0] at ht; simp at ht
  · exact ⟨b, off, e, hb, hc j t ht⟩

set_option maxHeartbeats 2000000 in
theorem refTexts_c (a a' : Option Addr) (cap cap' : Nat) (ts us : List Txt) (w : World) (hT : Txts w.heap.size w a ts) (hU : Txts w.heap.size w a' us) :
    Calls Tryd.prog 55 #[.slice a ts.length cap, .slice a' us.length cap'] w fun r w' => r = .returned (.bool (sameTx ts us)) ∧ Below w.heap.size w w' := by
  have hl1 := hT.1
  have hl2 := hU.1
  by_cases hlen : ts.length = us.length
  · have H1 := hide hT
    have H2 := hide hU
    have HL := hide hlen
    rw [← hlen]
    rw [← hlen] at hl2
    clear hT hU hlen
    go_enter Tryd.func55, Tryd.ntmps55
    go_wp2_with fail
    go_loopw [5] (fun i wr => ∃ k : Nat, k ≤ ts.length ∧ i = .int .i64 k ∧ Below w.heap.size w wr ∧ Hid (sameTx (ts.take k) (us.take k) = true)) (fun i _ => ts.length - (intOf i).toNat)
    case atStart => exact ⟨0, Nat.zero_le _, rfl, Below.refl _ _, hide (by simp [sameTx, allZ])⟩
    case round =>
      obtain ⟨k, hk, rfl, hB, hs⟩ := hrel
      by_cases hlt : k < ts.length
      · have hlt2 : k < us.length := by have := unhide HL; omega
        obtain ⟨t, ht⟩ : ∃ t, ts[k]? = some t := ⟨_, List.getElem?_eq_getElem hlt⟩
        obtain ⟨u, hu⟩ : ∃ u, us[k]? = some u := ⟨_, List.getElem?_eq_getElem hlt2⟩
        obtain ⟨b, off, rfl, hb, hc⟩ := (unhide H1).at ht
        obtain ⟨b', off', rfl, hb', hc'⟩ := (unhide H2).at hu
        have hc1 := (hB.cell (p := ⟨b, off + k, none⟩) hb).trans hc
        have hc2 := (hB.cell (p := ⟨b', off' + k, none⟩) hb').trans hc'
        have htk := hide (show sameTx (ts.take (k + 1)) (us.take (k + 1)) = (t.1.toList == u.1.toList) by
          unfold sameTx; rw [allZ_snoc ht hu]; have := unhide hs; unfold sameTx at this; rw [this]; rfl)
        clear hc hc' ht hu hlt2
        have hk1 : (k : Int) < ts.length := by omega
        have hk2 : (0 : Int) ≤ k := by omega
        generalize t.1 = x at *
        generalize u.1 = y at *
        cases hq : (x.toList == y.toList)
        · rw [hq] at htk
          have hno := hide (show sameTx ts us = false from allZ_no (k + 1) (unhide htk))
          clear htk
          go_wp2_with fail
          go_quiet (fail)
          go_wp2_with fail
          go_ret
          exact ⟨by rw [unhide hno]; rfl, below_dn hB _⟩
        · rw [hq] at htk
          go_wp2_with fail
          go_quiet (fail)
          go_wp2_with fail
          go_roundw
          case rel => exact ⟨k + 1, by omega, by go_num, below_dn hB _, htk⟩
          case measure => simp [intOf]; omega
      · have hy := hide (show sameTx ts us = true by
          have := unhide hs
          rwa [List.take_of_length_le (by omega), List.take_of_length_le (by have := unhide HL; omega)] at this)
        have hk1 : ¬ (k : Int) < ts.length := by omega
        go_wp2_with fail
        go_ret
        exact ⟨by rw [unhide hy]; rfl, hB⟩
  · have hno := hide (show sameTx ts us = false by
      cases hq : sameTx ts us
      · rfl
      · exact absurd (allZ_len hq) hlen)
    have hne : ((ts.length : Int) == us.length) = false := by simp; omega
    clear hT hU
    go_enter Tryd.func55, Tryd.ntmps55
    go_wp2_with fail
    go_ret
    exact ⟨by rw [unhide hno]; rfl, Below.refl _ _⟩

theorem box_nextS (W : World) (o : Obj) (t : TypeId) (cs : Array Value) : Box ((W.alloc o).alloc (.cells cs t)) (W.heap.size + 1) t cs := by
  have h := Box.new (W.alloc o) t cs
  rwa [show (W.alloc o).heap.size = W.heap.size + 1 by simp] at h
def sameE (x y : Em) : Bool := (x.al.1.toList == y.al.1.toList) && (sameTx x.ts y.ts && ((x.pl == y.pl) && ((x.nt == y.nt) && sameT x.t y.t)))

set_option maxHeartbeats 4000000 in
theorem refElem_c (x y : Em) (p q : Pl) (w : World) (hx : EmIn w.heap.size w x p) (hy : EmIn w.heap.size w y q) :
    Calls Tryd.prog 33 #[x.v p, y.v q] w fun r w' => r = .returned (.bool (sameE x y)) ∧ Below w.heap.size w w' := by
  obtain ⟨⟨xo, xb⟩, xts, xpl, xnt, ⟨xd, xk⟩⟩ := x
  obtain ⟨⟨yo, yb⟩, yts, ypl, ynt, ⟨yd, yk⟩⟩ := y
  obtain ⟨pa, pc, pk, pn⟩ := p
  obtain ⟨qa, qc, qk, qn⟩ := q
  obtain ⟨W2, hW2⟩ : ∃ W2, W2 = (w.alloc (.cells #[.string xo, .slice pa xts.length pc, .bool xpl, .bool xnt, .int .i64 xd.op, .int .i64 xd.k, .int .i64 xd.n, .string xd.s.1, .string xd.al.1, .string xd.fd.1, .slice pk xk.length pn] 42)).alloc (.cells #[.string yo, .slice qa yts.length qc, .bool ypl, .bool ynt, .int .i64 yd.op, .int .i64 yd.k, .int .i64 yd.n, .string yd.s.1, .string yd.al.1, .string yd.fd.1, .slice qk yk.length qn] 42) := ⟨_, rfl⟩
  have b2 : Below w.heap.size w W2 := by rw [hW2]; exact ((Below.refl _ _).alloc (Nat.le_refl _) _).alloc (by simp) _
  have x2 : Box W2 w.heap.size 42 #[.string xo, .slice pa xts.length pc, .bool xpl, .bool xnt, .int .i64 xd.op, .int .i64 xd.k, .int .i64 xd.n, .string xd.s.1, .string xd.al.1, .string xd.fd.1, .slice pk xk.length pn] := by rw [hW2]; exact (Box.new _ _ _).alloc _
  have y2 : Box W2 (w.heap.size + 1) 42 #[.string yo, .slice qa yts.length qc, .bool ypl, .bool ynt, .int .i64 yd.op, .int .i64 yd.k, .int .i64 yd.n, .string yd.s.1, .string yd.al.1, .string yd.fd.1, .slice qk yk.length qn] := by rw [hW2]; exact box_nextS _ _ _ _
  have hx2 := hx.on b2
  have hy2 := hy.on b2
  obtain ⟨st, hst⟩ : ∃ st, sameTx xts yts = st := ⟨_, rfl⟩
  have cT := refTexts_c pa qa pc qc xts yts W2 hx2.1 hy2.1
  rw [hst] at cT
  have CT := hide cT
  have X2 := hide x2
  have Y2 := hide y2
  have HX := hide hx2
  have HY := hide hy2
  obtain ⟨R, hR⟩ : ∃ R, R = sameE ⟨⟨xo, xb⟩, xts, xpl, xnt, ⟨xd, xk⟩⟩ ⟨⟨yo, yb⟩, yts, ypl, ynt, ⟨yd, yk⟩⟩ := ⟨_, rfl⟩
  rw [← hR]
  simp only [sameE] at hR
  rw [hst] at hR
  replace hR := hide hR
  obtain ⟨a0, a1, a2, a3, a4, a5, a6, a7, a8, a9, a10⟩ := x2.eleven
  obtain ⟨d0, d1, d2, d3, d4, d5, d6, d7, d8, d9, d10⟩ := y2.eleven
  clear hx hy hx2 hy2 cT hst x2 y2
  go_enter Tryd.func33, Tryd.ntmps33
  go_upto_region 1 with fail
  rw [← hW2]
  clear hW2
  rcases hq : (xo.toList == yo.toList) with _ | _
  · have H := hide (show R = false by rw [unhide hR, hq]; rfl)
    clear hR
    go_wp2_with fail
    go_ret
    exact ⟨by rw [unhide H]; rfl, b2⟩
  go_wp2_with fail
  refine (unhide CT).mono ?_
  rintro r W3 ⟨rfl, b3⟩
  have x3 := (unhide X2).on b3 (unhide X2).lt
  have y3 := (unhide Y2).on b3 (unhide Y2).lt
  have hx3 := (unhide HX).on b3
  have hy3 := (unhide HY).on b3
  have b23 := b2.trans (b3.mono b2.size)
  have cS := refSame_c xd yd pn qn pk qk xk yk W3 hx3.2 hy3.2
  clear a0 a1 a2 a3 a4 a5 a6 a7 a8 a9 a10 d0 d1 d2 d3 d4 d5 d6 d7 d8 d9 d10 CT X2 Y2 HX HY hx3 hy3
  obtain ⟨a0, a1, a2, a3, a4, a5, a6, a7, a8, a9, a10⟩ := x3.eleven
  obtain ⟨d0, d1, d2, d3, d4, d5, d6, d7, d8, d9, d10⟩ := y3.eleven
  clear x3 y3
  cases st
  · have H := hide (show R = false by rw [unhide hR]; simp)
    clear hR cS
    go_wp2_with fail
    go_ret
    exact ⟨by rw [unhide H]; rfl, b23⟩
  rcases hpl : (xpl == ypl) with _ | _
  · have H := hide (show R = false by rw [unhide hR, hpl]; simp)
    clear hR cS
    go_wp2_with fail
    go_ret
    exact ⟨by rw [unhide H]; rfl, b23⟩
  rcases hnt : (xnt == ynt) with _ | _
  · have H := hide (show R = false by rw [unhide hR, hnt]; simp)
    clear hR cS
    go_wp2_with fail
    go_ret
    exact ⟨by rw [unhide H]; rfl, b23⟩
  obtain ⟨z, hz⟩ : ∃ z, sameT (.mk xd xk) (.mk yd yk) = z := ⟨_, rfl⟩
  have H := hide (show R = z by rw [unhide hR, hq, hpl, hnt, hz]; rfl)
  rw [hz] at cS
  have CS := hide cS
  clear hR cS hz
  go_wp2_with fail
  refine (unhide CS).mono ?_
  rintro r W4 ⟨rfl, b4⟩
  go_wp2_with fail
  go_ret
  exact ⟨by rw [unhide H]; rfl, b23.trans (b4.mono b23.size)⟩

def samePt (p q : Pt) : Bool := (p.es.length == q.es.length) && ((p.wi == q.wi) && ((p.nm.1.toList == q.nm.1.toList) && ((p.any == q.any) && allZ sameE p.es q.es)))

set_option maxRecDepth 100000 in
set_option maxHeartbeats 8000000 in
theorem refPatt_c (p q : Pt) (a a' : Option Addr) (c c' : Nat) (w : World) (hE : Ems w.heap.size w a p.es) (hF : Ems w.heap.size w a' q.es) :
    Calls Tryd.prog 17 #[p.v a c, q.v a' c'] w fun r w' => r = .returned (.bool (samePt p q)) ∧ Below w.heap.size w w' := by
  have hmx : Tryd.prog.follows .mixedOrders = true := by kernel_rfl
  obtain ⟨es, wi, ⟨no, nb⟩, an⟩ := p
  obtain ⟨fs, vi, ⟨mo, mb⟩, am⟩ := q
  have hl1 := hE.1
  have hl2 := hF.1
  simp only at hl1 hl2
  obtain ⟨W2, hW2⟩ : ∃ W2, W2 = (w.alloc (.cells #[.slice a es.length c, .int .i64 wi, .string no, .bool an] 29)).alloc (.cells #[.slice a' fs.length c', .int .i64 vi, .string mo, .bool am] 29) := ⟨_, rfl⟩
  have b2 : Below w.heap.size w W2 := by rw [hW2]; exact ((Below.refl _ _).alloc (Nat.le_refl _) _).alloc (by simp) _
  have x2 : Box W2 w.heap.size 29 #[.slice a es.length c, .int .i64 wi, .string no, .bool an] := by rw [hW2]; exact (Box.new _ _ _).alloc _
  have y2 : Box W2 (w.heap.size + 1) 29 #[.slice a' fs.length c', .int .i64 vi, .string mo, .bool am] := by rw [hW2]; exact box_nextS _ _ _ _
  have HE := hide (hE.on b2)
  have HF := hide (hF.on b2)
  obtain ⟨R, hR⟩ : ∃ R, R = samePt ⟨es, wi, ⟨no, nb⟩, an⟩ ⟨fs, vi, ⟨mo, mb⟩, am⟩ := ⟨_, rfl⟩
  rw [← hR]
  simp only [samePt] at hR
  replace hR := hide hR
  obtain ⟨a0, a1, a2, a3⟩ := x2.four
  obtain ⟨d0, d1, d2, d3⟩ := y2.four
  have X2 := hide x2
  have Y2 := hide y2
  clear hE hF x2 y2
  go_enter Tryd.func17, Tryd.ntmps17
  go_upto_region 1 with fail
  rw [← hW2]
  clear hW2
  by_cases hlen : es.length = fs.length
  case neg =>
    have H := hide (show R = false by rw [unhide hR, show (es.length == fs.length) = false by simpa using hlen]; rfl)
    have hne : ¬ (es.length : Int) = fs.length := by omega
    clear hR hlen
    go_wp2_with fail
    go_ret
    exact ⟨by rw [unhide H]; rfl, b2⟩
  rw [← hlen] at d0 Y2
  have HL := hide hlen.symm
  rw [show (es.length == fs.length) = true by simpa using hlen] at hR
  clear hlen hl2
  by_cases hwi : wi = vi
  case neg =>
    have H := hide (show R = false by rw [unhide hR, show (wi == vi) = false by simpa using hwi]; rfl)
    clear hR
    go_wp2_with fail
    go_ret
    exact ⟨by rw [unhide H]; rfl, b2⟩
  rw [show (wi == vi) = true by simpa using hwi] at hR
  by_cases hnm : no.toList = mo.toList
  case neg =>
    have H := hide (show R = false by rw [unhide hR, show (no.toList == mo.toList) = false by simpa using hnm]; rfl)
    clear hR
    go_wp2_with fail
    go_ret
    exact ⟨by rw [unhide H]; rfl, b2⟩
  rw [show (no.toList == mo.toList) = true by simpa using hnm] at hR
  rcases han : (an == am) with _ | _
  · have H := hide (show R = false by rw [unhide hR, han]; rfl)
    clear hR
    go_wp2_with fail
    go_ret
    exact ⟨by rw [unhide H]; rfl, b2⟩
  have HR := hide (show R = allZ sameE es fs by rw [unhide hR, han]; simp)
  clear hR
  go_wp2_with fail
  clear hwi hnm han a0 a1 a2 a3 d0 d1 d2 d3
  go_loopw [5] (fun i wr => ∃ k : Nat, k ≤ es.length ∧ i = .int .i64 k ∧ Below W2.heap.size W2 wr ∧ Hid (allZ sameE (es.take k) (fs.take k) = true)) (fun i _ => es.length - (intOf i).toNat)
  case atStart => exact ⟨0, Nat.zero_le _, rfl, Below.refl _ _, hide (by simp [allZ])⟩
  case round =>
    obtain ⟨k, hk, rfl, hB, hs⟩ := hrel
    have xr := ((unhide X2).on hB (unhide X2).lt).at 0 rfl
    have yr := ((unhide Y2).on hB (unhide Y2).lt).at 0 rfl
    by_cases hlt : k < es.length
    · have hlt2 : k < fs.length := by have := unhide HL; omega
      obtain ⟨x, hx⟩ : ∃ x, es[k]? = some x := ⟨_, List.getElem?_eq_getElem hlt⟩
      obtain ⟨y, hy⟩ : ∃ y, fs[k]? = some y := ⟨_, List.getElem?_eq_getElem hlt2⟩
      obtain ⟨b, off, p, rfl, hb, hcs, hin⟩ := ((unhide HE).on hB).at hx
      obtain ⟨b', off', q, rfl, hb', hcs', hin'⟩ := ((unhide HF).on hB).at hy
      obtain ⟨z, hz⟩ : ∃ z, sameE x y = z := ⟨_, rfl⟩
      have htk := hide (show allZ sameE (es.take (k + 1)) (fs.take (k + 1)) = z by rw [allZ_snoc hx hy, unhide hs, ← hz]; rfl)
      have hd0 := cell_regrown (hcs 0 _ rfl)
      have hd1 := cell_regrown (hcs 1 _ rfl)
      have hd2 := cell_regrown (hcs 2 _ rfl)
      have hd3 := cell_regrown (hcs 3 _ rfl)
      have hd4 := cell_regrown (hcs 4 _ rfl)
      have hd5 := cell_regrown (hcs 5 _ rfl)
      have hd6 := cell_regrown (hcs 6 _ rfl)
      have hd7 := cell_regrown (hcs 7 _ rfl)
      have hd8 := cell_regrown (hcs 8 _ rfl)
      have hd9 := cell_regrown (hcs 9 _ rfl)
      have hd10 := cell_regrown (hcs 10 _ rfl)
      have hg0 := cell_regrown (hcs' 0 _ rfl)
      have hg1 := cell_regrown (hcs' 1 _ rfl)
      have hg2 := cell_regrown (hcs' 2 _ rfl)
      have hg3 := cell_regrown (hcs' 3 _ rfl)
      have hg4 := cell_regrown (hcs' 4 _ rfl)
      have hg5 := cell_regrown (hcs' 5 _ rfl)
      have hg6 := cell_regrown (hcs' 6 _ rfl)
      have hg7 := cell_regrown (hcs' 7 _ rfl)
      have hg8 := cell_regrown (hcs' 8 _ rfl)
      have hg9 := cell_regrown (hcs' 9 _ rfl)
      have hg10 := cell_regrown (hcs' 10 _ rfl)
      rw [Nat.add_zero] at hd0 hg0
      have xg := cell_regrown xr
      have yg := cell_regrown yr
      have cV : Hid (∀ (dd : Nat) (oo : Array Obj), Calls Tryd.prog 33 #[x.v p, y.v q] (Sort.grow (redrawn wr dd) oo) fun r W' => r = .returned (.bool z) ∧ Below (Sort.grow (redrawn wr dd) oo).heap.size (Sort.grow (redrawn wr dd) oo) W') := hide fun dd oo => by
        have hbg := below_regrown wr dd oo
        rw [← hz]
        exact refElem_c x y p q _ (hin.on hbg) (hin'.on hbg)
      have hkl : (k : Int) < es.length := by omega
      have hk0 : (0 : Int) ≤ k := by omega
      clear hcs hcs' hin hin' hx hy hz hlt2 hlt
      go_upto_region 6 with fail
      refine wp_region_quiet_below hmx (by kernel_rfl) ?_
      repeat (quiet_step (first | (go_at_call 33; exact Calls.regrown_of (unhide cV _ _))))
      refine wpQuiet_nil ?_
      intro _ hw'
      obtain ⟨⟨dq, osq⟩, hw''⟩ := hw'
      subst hw''
      have hb5 := below_regrown wr dq osq
      generalize Sort.grow (redrawn wr dq) osq = W5 at hb5 ⊢
      clear cV hd0 hd1 hd2 hd3 hd4 hd5 hd6 hd7 hd8 hd9 hd10 hg0 hg1 hg2 hg3 hg4 hg5 hg6 hg7 hg8 hg9 hg10 xg yg
      have bE := hB.trans (hb5.mono hB.size)
      cases z
      · have H := hide (show R = false by rw [unhide HR]; exact allZ_no (k + 1) (unhide htk))
        clear htk
        go_wp2_with fail
        go_ret
        exact ⟨by rw [unhide H]; rfl, b2.trans (bE.mono b2.size)⟩
      · go_wp2_with fail
        go_roundw
        case rel => exact ⟨k + 1, by omega, by go_num, bE, htk⟩
        case measure => simp [intOf]; omega
    · have H := hide (show R = true by
        rw [unhide HR]
        have := unhide hs
        rwa [List.take_of_length_le (by omega), List.take_of_length_le (by have := unhide HL; omega)] at this)
      have hk1 : ¬ (k : Int) < es.length := by omega
      go_wp2_with fail
      go_ret
      exact ⟨by rw [unhide H]; rfl, b2.trans (hB.mono b2.size)⟩
end Go.Proofs.YtfofpenajkaalaaDoor
