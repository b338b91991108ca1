/-
  Package check's Kind and Pattern.
-/
import Derived.Test.YtllpigbmkhanjaaCkE
namespace Go.Proofs.Ytllpigbmkhanjaa
open Go.RowKit Go.Shelf

attribute [local go_sem] Oper.semAt_some

def kindP (ts : List Ty) (es : List Em) (t : Tree) : KR := if isT t then kindT ts es t else (0, 10)

set_option maxHeartbeats 2000000 in
theorem kind9_c (ea sa : Option Addr) (ec sc : Nat) (ts : List Ty) (es : List Em) (a : Option Addr) (cap : Nat) (t : Tree) (w : World) (hS : Schm w.heap.size w sa ts) (hE : Ems w.heap.size w ea es) (hL : Lies w.heap.size w a t.kids) :
    Calls Try.prog 9 #[.agg #[.slice sa ts.length sc], .slice ea es.length ec, t.dat.v a t.kids.length cap] w fun r W' => r = .returned (kindP ts es t).v ∧ Below w.heap.size w W' := by
  obtain ⟨d, ks⟩ := t
  obtain ⟨W1, hW1⟩ : ∃ W1, W1 = (w.alloc (.cells #[.slice sa ts.length sc] 37)).alloc (.cells (d.cs a ks.length cap) 28) := ⟨_, rfl⟩
  have b1 : Below w.heap.size w W1 := by rw [hW1]; exact ((Below.refl _ _).alloc (Nat.le_refl _) _).alloc (by simp) _
  have x1 : Box W1 w.heap.size 37 #[.slice sa ts.length sc] := by rw [hW1]; exact (Box.new _ _ _).alloc _
  have y1 : Box W1 (w.heap.size + 1) 28 (d.cs a ks.length cap) := by
    have := Box.new (w.alloc (.cells #[.slice sa ts.length sc] 37)) 28 (d.cs a ks.length cap)
    rw [World.size_alloc] at this
    rw [hW1]; exact this
  have s1 := hS.on b1
  have e1 := hE.on b1
  have l1 : Lies W1.heap.size W1 a ks := (hL.sm (Sm.of_below b1)).mono b1.size
  have cI := hide (isT_c d a ks cap W1 l1)
  obtain ⟨q0, q1, q2, q3, q4, q5, q6⟩ := y1.seven
  go_enter Try.func9, Try.ntmps9
  go_upto_region 1 with fail
  rw [← hW1]
  replace hW1 := hide hW1
  go_wp2_with fail
  refine (unhide cI).mono ?_
  rintro r w2 ⟨rfl, hb2⟩
  have b2 := b1.trans (hb2.mono b1.size)
  cases hi : isT (.mk d ks)
  · have hR := hide (show kindP ts es (.mk d ks) = (0, 10) by simp [kindP, hi])
    go_wp2_with fail
    go_ret2
    exact ⟨by rw [unhide hR]; rfl, b2⟩
  · have hR := hide (show kindP ts es (.mk d ks) = kindT ts es (.mk d ks) by simp [kindP, hi])
    have y2 := y1.on hb2 y1.lt
    have x2 := (x1.on hb2 x1.lt).one.1
    clear q0 q1 q2 q3 q4 q5 q6
    obtain ⟨q0, q1, q2, q3, q4, q5, q6⟩ := y2.seven
    have cK := hide (kind14_c ea sa ec sc ts es a cap (.mk d ks) w2 (s1.on hb2) (e1.on hb2) ((l1.sm (Sm.of_below hb2)).mono hb2.size))
    obtain ⟨⟨r1, r2⟩, hR2⟩ : ∃ R, R = kindT ts es (.mk d ks) := ⟨_, rfl⟩
    rw [← hR2] at hR cK
    clear hR2
    go_wp2_with fail
    refine (unhide cK).mono ?_
    rintro r w3 ⟨rfl, hb3⟩
    go_wp2_with fail
    go_ret2
    exact ⟨by rw [unhide hR]; rfl, b2.trans (hb3.mono b2.size)⟩

/-- Why an element doesn't suit, 0 if it does. -/
def refuseP (ts : List Ty) (x : Em × List Em) : Int :=
  if hasB ts x.1.ts = false then 13
  else if x.1.t.dat.op = 0 then 0
  else if (kindT ts x.2 x.1.t).2 ≠ 0 then (kindT ts x.2 x.1.t).2
  else if (kindT ts x.2 x.1.t).1 ≠ 3 then 14 else 0

set_option maxRecDepth 100000 in
set_option maxHeartbeats 4000000 in
theorem refusal_c (ea sa : Option Addr) (ec sc : Nat) (ts : List Ty) (es : List Em) (e : Em) (p : Pl) (w : World) (hS : Schm w.heap.size w sa ts) (hE : Ems w.heap.size w ea es) (hi : EmIn w.heap.size w e p) :
    Calls Try.prog 19 #[.agg #[.slice sa ts.length sc, .slice ea es.length ec], e.v p] w fun r W' => r = .returned (errO (refuseP ts (e, es))) ∧ Below w.heap.size w W' := by
  obtain ⟨W1, hW1⟩ : ∃ W1, W1 = (w.alloc (.cells #[.slice sa ts.length sc, .slice ea es.length ec] 57)).alloc (.cells (e.cs p) 41) := ⟨_, rfl⟩
  have b1 : Below w.heap.size w W1 := by rw [hW1]; exact ((Below.refl _ _).alloc (Nat.le_refl _) _).alloc (by simp) _
  have x1 : Box W1 w.heap.size 57 #[.slice sa ts.length sc, .slice ea es.length ec] := by rw [hW1]; exact (Box.new _ _ _).alloc _
  have y1 : Box W1 (w.heap.size + 1) 41 (e.cs p) := by
    have := Box.new (w.alloc (.cells #[.slice sa ts.length sc, .slice ea es.length ec] 57)) 41 (e.cs p)
    rw [World.size_alloc] at this
    rw [hW1]; exact this
  have s1 := hS.on b1
  have e1 := hE.on b1
  have i1 := hi.on b1
  have cH := hide (hasTypes_c sa sc ts e p W1 s1 i1)
  obtain ⟨q0, q1, q2, q3, q4, q5, q6, q7, q8, q9, q10⟩ := y1.eleven
  obtain ⟨p0, p1⟩ := x1.two
  go_enter Try.func19, Try.ntmps19
  go_upto_region 1 with fail
  rw [← hW1]
  replace hW1 := hide hW1
  go_wp2_with fail
  refine (unhide cH).mono ?_
  rintro r w2 ⟨rfl, hb2⟩
  have b2 := b1.trans (hb2.mono b1.size)
  cases hh : hasB ts e.ts
  · have hR := hide (show refuseP ts (e, es) = 13 by simp [refuseP, hh])
    go_wp2_with fail
    go_ret
    exact ⟨by rw [unhide hR]; rfl, b2⟩
  have y2 := y1.on hb2 y1.lt
  have x2 := x1.on hb2 x1.lt
  clear q0 q1 q2 q3 q4 q5 q6 q7 q8 q9 q10 p0 p1
  obtain ⟨q0, q1, q2, q3, q4, q5, q6, q7, q8, q9, q10⟩ := y2.eleven
  obtain ⟨p0, p1⟩ := x2.two
  by_cases ho : e.t.dat.op = 0
  · have hR := hide (show refuseP ts (e, es) = 0 by simp [refuseP, hh, ho])
    rw [ho] at q4
    clear ho
    go_wp2_with fail
    go_ret
    exact ⟨by rw [unhide hR]; rfl, b2⟩
  have hR := hide (show refuseP ts (e, es) = if (kindT ts es e.t).2 ≠ 0 then (kindT ts es e.t).2 else if (kindT ts es e.t).1 ≠ 3 then 14 else 0 by simp only [refuseP, hh, ho, if_false, Bool.true_eq_false])
  have cK := hide (kind14_c ea sa ec sc ts es p.ka p.kc e.t w2 (s1.on hb2) (e1.on hb2) (((i1.2.sm (Sm.of_below hb2)).mono hb2.size)))
  have ho' : (e.t.dat.op == 0) = false := by simp [ho]
  obtain ⟨⟨r1, r2⟩, hR2⟩ : ∃ R, R = kindT ts es e.t := ⟨_, rfl⟩
  rw [← hR2] at hR cK
  clear hR2 ho
  go_wp2_with fail
  refine (unhide cK).mono ?_
  rintro r w3 ⟨rfl, hb3⟩
  have b3 := b2.trans (hb3.mono b2.size)
  by_cases hz : r2 = 0
  · subst hz
    have eO : KR.v (r1, 0) = .tuple #[.int .i64 r1, .nilIface] := rfl
    rw [eO]
    clear eO
    by_cases h3 : r1 = 3
    · subst h3
      have hR3 := hide (show refuseP ts (e, es) = 0 by rw [unhide hR]; simp)
      clear hR
      go_wp2_with fail
      go_ret
      exact ⟨by rw [unhide hR3]; rfl, b3⟩
    · have hR3 := hide (show refuseP ts (e, es) = 14 by rw [unhide hR]; simp [h3])
      have h3' : (r1 != 3) = true := by simp [h3]
      clear hR h3
      go_wp2_with fail
      go_ret
      exact ⟨by rw [unhide hR3]; rfl, b3⟩
  · have hR3 := hide (show refuseP ts (e, es) = r2 by rw [unhide hR]; simp [hz])
    have eO : KR.v (r1, r2) = .tuple #[.int .i64 r1, errV r2] := by simp [KR.v, encK, errO, hz]
    have eO2 : errO r2 = errV r2 := by simp [errO, hz]
    rw [eO]
    replace eO2 := hide eO2
    clear hR hz eO
    go_wp2_with fail
    go_ret
    exact ⟨by rw [unhide hR3, unhide eO2]; rfl, b3⟩

def firstE : List Int → Int
  | [] => 0
  | e :: r => if e ≠ 0 then e else firstE r
/-- Why a pattern doesn't suit, 0 if it does. -/
def chkP (ts : List Ty) (q : Pt) : Int :=
  if patB q = false then 10
  else if firstE ((scopesP q.es).map (refuseP ts)) ≠ 0 then firstE ((scopesP q.es).map (refuseP ts))
  else if q.nm.1.toList = [] then 0
  else (oneP (fksP ts q.nm.1 q.es)).2
theorem firstE_none (l : List Int) (h : ∀ x ∈ l, x = 0) : firstE l = 0 := by
  induction l with
  | nil => rfl
  | cons x r ih => simp only [firstE, h x (by simp), ne_eq, not_true_eq_false, if_false]; exact ih (fun y hy => h y (by simp [hy]))
theorem firstE_at (q r : List Int) (x : Int) (h : ∀ y ∈ q, y = 0) (hx : x ≠ 0) : firstE (q ++ x :: r) = x := by
  induction q with
  | nil => simp [firstE, hx]
  | cons y q ih => simp only [List.cons_append, firstE, h y (by simp), ne_eq, not_true_eq_false, if_false]; exact ih (fun z hz => h z (by simp [hz]))
theorem kps_grown {B : Nat} {W W' : World} {row : Option Nat} (hg : W.grownBy W' row) (hr : ∀ r, row = some r → B ≤ r ∧ ∃ o : Obj, W.heap[r]? = some o ∧ o.isCells = false) : KpS W W' :=
  ⟨hg.size, fun k o hk ho hc => (hg.block k hk (fun e => by
    obtain ⟨-, o', h1, h2⟩ := hr k e.symm
    rw [ho] at h1; cases h1; rw [hc] at h2; cases h2)).trans ho⟩

/-- No element ahead is refused. -/
def noR (ts : List Ty) (pre : List Sc) : Prop := ∀ x ∈ pre, refuseP ts x.key = 0
def badR (ts : List Ty) (pre : List Sc) (e : Int) : Prop := ∃ q x, pre = q ++ [x] ∧ noR ts q ∧ refuseP ts x.key = e ∧ e ≠ 0

set_option maxRecDepth 100000 in
set_option maxHeartbeats 8000000 in
theorem pattern12_in (n : Nat) (hn : 5 ≤ n) (sa : Option Addr) (sc : Nat) (ts : List Ty) (q : Pt) (a : Option Addr) (cap : Nat) (hcap : q.es.length ≤ cap) (w : World) (hS : Schm w.heap.size w sa ts) (hE : Ems w.heap.size w a q.es) :
    CallsIn Fence.wide n Try.prog 12 #[.agg #[.slice sa ts.length sc], q.v a cap] w fun r W' => r = .returned (errO (chkP ts q)) ∧ Below w.heap.size w W' := by
  have h1 : 1 ≤ n := by omega
  have hro : Fence.wide.round = none := rfl
  obtain ⟨s, es⟩ : ∃ s, s = w.heap.size := ⟨_, rfl⟩
  obtain ⟨W0, hW0⟩ : ∃ W0, W0 = ((w.alloc (.cells #[.slice sa ts.length sc] 37)).alloc (.cells (q.cs a cap) 48)).alloc (.cells #[.nilIface] 32) := ⟨_, rfl⟩
  have e0 : W0.heap.size = s + 3 := by rw [hW0]; simp [es]
  have b0 : Below s w W0 := by rw [hW0, es]; exact (((Below.refl _ _).alloc (Nat.le_refl _) _).alloc (by simp) _).alloc (by simp; omega) _
  have x1 : Box W0 s 37 #[.slice sa ts.length sc] := by rw [hW0, es]; exact ((Box.new w 37 _).alloc _).alloc _
  have x2 : Box W0 (s + 1) 48 (q.cs a cap) := by
    have := (Box.new (w.alloc (.cells #[.slice sa ts.length sc] 37)) 48 (q.cs a cap)).alloc (.cells #[.nilIface] 32)
    simp only [World.size_alloc] at this
    rw [hW0, es]; exact this
  have x3 : Box W0 (s + 2) 32 #[.nilIface] := by
    have := (Box.new ((w.alloc (.cells #[.slice sa ts.length sc] 37)).alloc (.cells (q.cs a cap) 48)) 32 #[.nilIface])
    simp only [World.size_alloc] at this
    rw [hW0, es]; exact this
  obtain ⟨c0, c1, c2, c3⟩ := x2.four
  have d0 := x1.one.1
  refine callsIn_of_wp_marks Try.func12 rfl trivial ?_ rfl
  simp only [Try.ntmps12, List.size_toArray, List.length_cons, List.length_nil, Nat.reduceAdd, Nat.reduceSub, Array.replicate_succ, Array.replicate_zero, List.push_toArray, List.append_toArray, List.nil_append, List.cons_append]
  gi_upto_region 1 with fail
  rw [← hW0, ← es]
  simp only [Nat.add_assoc, Nat.reduceAdd]
  clear hW0
  have hsw : s ≤ w.heap.size := Nat.le_of_eq es
  have hws : w.heap.size ≤ s := Nat.le_of_eq es.symm
  have b0w : Below w.heap.size w W0 := es ▸ b0
  have hS0 := hS.on b0w
  have hE0 := hE.on b0w
  replace es := hide es
  have cP := hide (pattern_c q a cap hcap W0 hE0)
  gi_wp2_with fail
  refine ⟨trivial, ?_⟩
  refine (callsIn_wide.2 (unhide cP)).mono ?_
  rintro e w1 ⟨rfl, hb1⟩
  have bw1 : Below s w w1 := b0.trans (hb1.mono (by omega))
  have r1 := x3.on hb1 x3.lt
  have y2 := x2.on hb1 x2.lt
  have y1 := x1.on hb1 x1.lt
  clear c0 c1 c2 c3 d0
  cases hpb : patB q
  · have hR := hide (show chkP ts q = 10 by simp [chkP, hpb])
    obtain ⟨hr0, hf0⟩ := r1.one
    gi_wp2_with fail
    have r2 := (r1.set 0 (errV 10)).one.1
    refine ⟨errV 10, ?_, by rw [unhide hR]; rfl, by rw [← unhide es]; exact bw1.setCell (p := ⟨s + 2, 0, none⟩) (by simp) _⟩
    simp [results, Try.f12, go_sem, show (w1.setCell { block := s + 2, off := 0 } (errV 10)).cell? { block := s + 2, off := 0 } = some (errV 10) from r2]
  have hE1 := hE0.on hb1
  have hS1 := hS0.on hb1
  obtain ⟨c0, c1, c2, c3⟩ := y2.four
  have cS := hide (scopes_c a cap q.es w1 hE1)
  gi_wp2_with fail
  refine ⟨trivial, ?_⟩
  refine (callsIn_wide.2 (unhide cS)).mono ?_
  rintro e w2 ⟨B, rfl, hb2, hseq⟩
  have bw2 : Below s w w2 := bw1.trans (hb2.mono (Nat.le_trans hsw bw1.size))
  have r2 := r1.on hb2 r1.lt
  have z2 := y2.on hb2 y2.lt
  have z1 := y1.on hb2 y1.lt
  have hs2 : s + 3 ≤ w2.heap.size := by have := hb1.size; have := hb2.size; omega
  have hE2 := hide (hE1.on hb2)
  have hS2 := hide (hS1.on hb2)
  clear c0 c1 c2 c3 cS cP r1 y1 y2
  gi_wp2_with fail
  refine wpIn_rangeFunc_told (ok := okN) (fun o h => h) hro h1 (gf := 29) (lb := #[.pointer (some ⟨B, 0, none⟩)]) rfl trivial (enters_of Try.func29 (by kernel_rfl) rfl)
    (hseq (n - 1) (by omega)) KpS.trans
    (fun W l o o' hl h hc hw => KpS.put W l o o' h hc) (Below.refl _ _) (fun _ => rfl)
    (fun pre W => (Box W s 37 #[.slice sa ts.length sc] ∧ Box W (s + 2) 32 #[.nilIface]) ∧ Hid (noR ts pre) ∧ Below s w W ∧ KpS w2 W)
    (fun c pre W => c = .ret ∧ (∃ x : Int, Hid (badR ts pre x) ∧ Box W (s + 2) 32 #[errV x]) ∧ Below s w W)
    (ownP_and (ownP_and (ownP_box (by omega) _ (fun _ => _)) (ownP_box (by omega) _ (fun _ => _))) (ownP_and (ownP_pure _ _ (fun (pre : List Sc) => Hid (noR ts pre))) (ownP_and (ownP_below (by omega) (by omega)) (fun _ A C row hs hg hr => KpS.trans hs (kps_grown hg hr)))))
    (fun c => ownP_and (ownP_pure _ _ (fun _ => c = .ret)) (ownP_and (ownP_ex fun x => ownP_and (ownP_pure _ _ (fun (pre : List Sc) => Hid (badR ts pre x))) (ownP_box (by omega) _ (fun _ => _))) (ownP_below (by omega) (by omega))))
    ⟨⟨z1, r2⟩, hide (fun x hx => by simp at hx), bw2, KpS.refl _⟩
    (fun pre x a1' W => ∃ B1, (Box W B1 41 (x.e.cs x.p) ∧ EmIn W.heap.size W x.e x.p ∧ Ems W.heap.size W x.na x.nm ∧ s + 3 ≤ B1) ∧ a1' = { tmps := #[.agg #[.slice sa ts.length sc], q.v a cap, .pointer (some ⟨s, 0, none⟩), .pointer (some ⟨s + 1, 0, none⟩), .pointer (some ⟨s + 2, 0, none⟩), .pointer (some ⟨B1, 0, none⟩), .slice x.na x.nm.length x.cap, undef, undef, undef, q.v a cap, .bool true, .bool false, undef, .pointer (some ⟨s + 1, 0, none⟩), .slice a q.es.length cap, .func (.func 29) #[] #[.pointer (some ⟨B, 0, none⟩)], x.e.v x.p, .slice x.na x.nm.length x.cap, undef, undef, undef, undef, undef, undef, undef, undef, undef, undef, undef, undef, undef, undef, undef, undef, undef, undef, undef, undef, undef, undef], defers := [] })
    (fun pre x a1' st A C row hs hg hr => by
      obtain ⟨B1, ⟨hf1, hf2, hf3, hf4⟩, e⟩ := hs
      have k := kps_grown hg hr
      exact ⟨B1, ⟨k.box hf1, (hf2.sm k.2).mono k.1, (hf3.sm k.2).mono k.1, hf4⟩, e⟩) ?assign ?body ?done ?stop
  case assign =>
    rintro l pre x W K ⟨⟨hb1, hb2⟩, hg, hB, hk⟩ ⟨⟨he1, he2⟩, he3⟩ hK
    obtain ⟨WA, hWA⟩ : ∃ WA, WA = W.alloc (.cells (x.e.cs x.p) 41) := ⟨_, rfl⟩
    have bA : Below W.heap.size W WA := by rw [hWA]; exact (Below.refl _ W).alloc (Nat.le_refl _) _
    have q1 : Box WA W.heap.size 41 (x.e.cs x.p) := by rw [hWA]; exact Box.new W 41 _
    have he1 := hide (he1.on bA)
    have he2 := hide (he2.on bA)
    replace he3 := hide he3
    replace hWA := hide hWA
    gi_wp2
    rw [← unhide hWA]
    refine hK _ _ ?_ ?_ ?_ ?_
    · exact (keeps_below bA).from _
    · exact KpS.of bA
    · exact ⟨⟨hb1.on bA hb1.lt, hb2.on bA hb2.lt⟩, hg, hB.trans (bA.mono (Nat.le_trans hsw hB.size)), hk.trans (KpS.of bA)⟩
    · exact ⟨W.heap.size, ⟨q1, unhide he1, unhide he2, by have := hk.1; omega⟩, rfl⟩
  case body =>
    rintro l pre x a1' W ⟨⟨hb1, hb2⟩, hg, hB, hk⟩ ⟨B1, ⟨hq, hi1, hi2, hi3⟩, rfl⟩
    have h2 : 1 ≤ n - 1 - 1 := by omega
    have hsW : s ≤ W.heap.size := by have := hk.1; omega
    have sW : Schm W.heap.size W sa ts := ((unhide hS2).sm hk.2).mono hk.1
    have cR := hide (refusal_c x.na sa x.cap sc ts x.nm x.e x.p W sW hi2 hi1)
    obtain ⟨q0, q1, q2, q3, q4, q5, q6, q7, q8, q9, q10⟩ := hq.eleven
    have p0 := hb1.one.1
    gi_wp2_with fail
    refine ⟨trivial, ?_⟩
    refine (CallsIn.inRound l (callsIn_wide.2 (unhide cR))).mono ?_
    rintro e W2 ⟨rfl, hb3⟩
    have z1 := hb1.on hb3 hb1.lt
    have z3 := hb2.on hb3 hb2.lt
    have bZ := hB.trans (hb3.mono hsW)
    obtain ⟨R, hR⟩ : ∃ R, R = refuseP ts (x.e, x.nm) := ⟨_, rfl⟩
    rw [← hR]
    obtain ⟨hr0, hf0⟩ := z3.one
    by_cases hz : R = 0
    · have hno := hide (show noR ts (pre ++ [x]) from fun y hy => by
        rcases List.mem_append.1 hy with h | h
        · exact unhide hg y h
        · rw [List.mem_singleton.1 h]; exact hR.symm.trans hz)
      have eO : errO R = .nilIface := by simp [errO, hz]
      rw [eO]
      clear hR hz eO
      gi_wp2_with fail
      exact ⟨(keeps_below hb3).from _, KpS.of hb3, ⟨z1, z3⟩, hno, bZ, hk.trans (KpS.of hb3)⟩
    · have hbad := hide (show badR ts (pre ++ [x]) R from ⟨pre, x, rfl, unhide hg, hR.symm, hz⟩)
      have eO : errO R = errV R := by simp [errO, hz]
      rw [eO]
      clear hR hz eO
      gi_wp2_with fail
      exact ⟨((keeps_below hb3).trans (KeepsOthers.setCell _ _ _)).from _, rfl, ⟨R, hbad, z3.set 0 _⟩, bZ.setCell (p := ⟨s + 2, 0, none⟩) (by simp) _⟩
  case done =>
    rintro D ys W hD hys ⟨⟨hb1, hb2⟩, hg, hB, hk⟩ hK
    have hfi : firstE ((scopesP q.es).map (refuseP ts)) = 0 := firstE_none _ (fun v hv => by
      rw [← hys, List.map_map] at hv
      obtain ⟨y, hy, rfl⟩ := List.mem_map.1 hv
      exact unhide hg y hy)
    have y2 := hk.box z2
    have hsW : s ≤ W.heap.size := by have := hk.1; omega
    have hch : chkP ts q = if q.nm.1.toList = [] then 0 else (oneP (fksP ts q.nm.1 q.es)).2 := by simp only [chkP, hpb, hfi]; simp
    have sW : Schm W.heap.size W sa ts := ((unhide hS2).sm hk.2).mono hk.1
    have eW : Ems W.heap.size W a q.es := ((unhide hE2).sm hk.2).mono hk.1
    obtain ⟨c0, c1, c2, c3⟩ := y2.four
    have p0 := hb1.one.1
    obtain ⟨hr0, hf0⟩ := hb2.one
    replace hys := hide hys
    clear hfi hg z1 z2 r2 hseq
    by_cases hnm : q.nm.1.toList = []
    · have hR := hide (show chkP ts q = 0 by rw [hch, if_pos hnm])
      have eB : q.nm.1.toList.isEmpty = true := by rw [hnm]; rfl
      clear hch hnm
      gi_wp2_with fail
      have hK' := (KeepsOthers.setCell W ⟨s + 2, 0, none⟩ .nilIface).same D _ hK rfl
      refine ⟨by simp, .inl ⟨_, _, rfl, run_takeDeferred hK', ?_⟩⟩
      have d4 := ((hb2.set 0 .nilIface).put hK' rfl (.deferred none)).one.1
      refine ⟨.nilIface, ?_, by rw [unhide hR]; rfl, by rw [← unhide es]; exact (hB.setCell (p := ⟨s + 2, 0, none⟩) (by simp) _).trans (belowK_b (w := w) hsw _ D _ _ (by omega) hK' rfl rfl)⟩
      simp [results, Try.f12, go_sem, d4]
    · have hR := hide (show chkP ts q = (oneP (fksP ts q.nm.1 q.es)).2 by rw [hch, if_neg hnm])
      have eB : q.nm.1.toList.isEmpty = false := by
        cases h : q.nm.1.toList.isEmpty
        · rfl
        · exact absurd (List.isEmpty_iff.1 h) hnm
      have cF := hide (fieldKinds_c a sa cap sc ts q.nm.1 q.es W sW eW)
      clear hch hnm
      gi_wp2_with fail
      refine ⟨trivial, ?_⟩
      refine (callsIn_wide.2 (unhide cF)).mono ?_
      rintro e W2 ⟨lb, rfl, hgv, hb3⟩
      have cO := hide (one_c 32 lb _ W2 hgv)
      gi_wp2_with fail
      refine ⟨trivial, ?_⟩
      refine (callsIn_wide.2 (unhide cO)).mono ?_
      rintro e W3 ⟨rfl, hb4⟩
      have b34 := hb3.trans (hb4.mono hb3.size)
      have u2 := hb2.on b34 hb2.lt
      have bb := hB.trans (b34.mono hsW)
      obtain ⟨⟨o1, o2⟩, hO⟩ : ∃ R, R = oneP (fksP ts q.nm.1 q.es) := ⟨_, rfl⟩
      rw [← hO] at hR ⊢
      replace hO := hide hO
      have hKb : W3.heap[D]? = some (.deferred (some [])) := (keeps_below b34).same D _ hK rfl
      clear hr0 hf0
      obtain ⟨hr0, hf0⟩ := u2.one
      dsimp only [KR.v, encK]
      by_cases hz : o2 = 0
      · have eO : errO o2 = .nilIface := by simp [errO, hz]
        have eO2 := hide eO
        rw [eO]
        clear hz eO
        gi_wp2_with fail
        have hK' := (KeepsOthers.setCell W3 ⟨s + 2, 0, none⟩ .nilIface).same D _ hKb rfl
        refine ⟨by simp, .inl ⟨_, _, rfl, run_takeDeferred hK', ?_⟩⟩
        have d4 := ((u2.set 0 .nilIface).put hK' rfl (.deferred none)).one.1
        refine ⟨.nilIface, ?_, by rw [unhide hR, unhide eO2], by rw [← unhide es]; exact (bb.setCell (p := ⟨s + 2, 0, none⟩) (by simp) _).trans (belowK_b (w := w) hsw _ D _ _ (by omega) hK' rfl rfl)⟩
        simp [results, Try.f12, go_sem, d4]
      · have eO : errO o2 = errV o2 := by simp [errO, hz]
        have eO2 := hide eO
        rw [eO]
        clear hz eO
        gi_wp2_with fail
        have hK' := (KeepsOthers.setCell W3 ⟨s + 2, 0, none⟩ (errV o2)).same D _ hKb rfl
        refine ⟨by simp, .inl ⟨_, _, rfl, run_takeDeferred hK', ?_⟩⟩
        have d4 := ((u2.set 0 (errV o2)).put hK' rfl (.deferred none)).one.1
        refine ⟨errV o2, ?_, by rw [unhide hR, unhide eO2], by rw [← unhide es]; exact (bb.setCell (p := ⟨s + 2, 0, none⟩) (by simp) _).trans (belowK_b (w := w) hsw _ D _ _ (by omega) hK' rfl rfl)⟩
        simp [results, Try.f12, go_sem, d4]
  case stop =>
    rintro D c pre W hD ⟨rest, hr⟩ ⟨rfl, ⟨x, hbad, hb2⟩, hB⟩ hK
    obtain ⟨p1, y, ep, hno, hy, hx⟩ := unhide hbad
    have hfi : firstE ((scopesP q.es).map (refuseP ts)) = x := by
      have e1 : (scopesP q.es).map (refuseP ts) = (p1.map fun z => refuseP ts z.key) ++ x :: rest.map (refuseP ts) := by
        rw [← hr, ep, ← hy]; simp [Function.comp_def]
      rw [e1]
      exact firstE_at _ _ _ (fun v hv => by
        obtain ⟨z, hz, rfl⟩ := List.mem_map.1 hv
        exact hno z hz) hx
    have hR := hide (show chkP ts q = x by simp only [chkP, hpb, hfi]; simp [hx])
    have eO := hide (show errO x = errV x by simp [errO, hx])
    clear hfi hr ep hno hy hx hbad
    gi_wp2_with fail
    refine ⟨by simp, .inl ⟨_, _, rfl, run_takeDeferred hK, ?_⟩⟩
    have d4 := (hb2.put hK rfl (.deferred none)).one.1
    refine ⟨errV x, ?_, by rw [unhide hR, unhide eO], by rw [← unhide es]; exact hB.trans (belowK_b (w := w) hsw _ D _ _ (by omega) hK rfl rfl)⟩
    simp [results, Try.f12, go_sem, d4]

theorem pattern12_c (sa : Option Addr) (sc : Nat) (ts : List Ty) (q : Pt) (a : Option Addr) (cap : Nat) (hcap : q.es.length ≤ cap) (w : World) (hS : Schm w.heap.size w sa ts) (hE : Ems w.heap.size w a q.es) :
    Calls Try.prog 12 #[.agg #[.slice sa ts.length sc], q.v a cap] w fun r W' => r = .returned (errO (chkP ts q)) ∧ Below w.heap.size w W' :=
  callsIn_wide.1 (pattern12_in 5 (Nat.le_refl _) sa sc ts q a cap hcap w hS hE)
end Go.Proofs.Ytllpigbmkhanjaa
