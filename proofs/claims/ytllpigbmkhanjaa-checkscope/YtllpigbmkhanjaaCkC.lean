/-
  Package check: the walk over a field's kinds in the types of elements.
-/
import Derived.Test.YtllpigbmkhanjaaCkB
namespace Go.Proofs.Ytllpigbmkhanjaa
open Go.RowKit Go.Shelf

attribute [local go_sem] Oper.semAt_some

theorem fks_split (ts : List Ty) (nm : ByteArray) (es : List Em) (k : Nat) (e : Em) (h : es[k]? = some e) :
    fksP ts nm es = fksP ts nm (es.take k) ++ (e.ts.map fun t => fkP ts t.1 nm) ++ fksP ts nm (es.drop (k + 1)) := by
  have hlt : k < es.length := (List.getElem?_eq_some_iff.1 h).1
  have e1 : es = es.take k ++ [e] ++ es.drop (k + 1) := by
    have := List.take_append_drop (k + 1) es
    rw [List.take_add_one, h, Option.toList_some] at this
    exact this.symm
  conv => lhs; rw [e1]
  simp [fksP]
theorem fks_take (ts : List Ty) (nm : ByteArray) (es : List Em) (k : Nat) (e : Em) (h : es[k]? = some e) :
    fksP ts nm (es.take (k + 1)) = fksP ts nm (es.take k) ++ (e.ts.map fun t => fkP ts t.1 nm) := by
  rw [List.take_add_one, h, Option.toList_some]
  simp [fksP]
theorem take_mid {α : Type} (A B C : List α) (j : Nat) (hj : j ≤ B.length) : (A ++ B ++ C).take (A.length + j) = A ++ B.take j := by
  rw [List.append_assoc, List.take_length_add_append, List.take_append_of_le_length hj]

set_option maxRecDepth 100000 in
set_option maxHeartbeats 4000000 in
theorem fks1_in (n : Nat) (hn : 1 ≤ n) (l Bl Bs Bf n₀ cap sc : Nat) (a sa : Option Addr) (ts : List Ty) (nm : ByteArray) (es : List Em)
    (J Jx : List KR → World → Prop)
    (hal : ∀ pre W W', J pre W → Below W.heap.size W W' → J pre W')
    (hY : ∀ pre x W, J pre W → pre.length < (fksP ts nm es).length → YieldAt Fence.wide (n - 1) Try.prog l (encK x) W fun e W' =>
      (e = .returned (.bool true) ∧ J (pre ++ [x]) W' ∧ Below n₀ W W') ∨ (e = .returned (.bool false) ∧ Jx (pre ++ [x]) W'))
    (W : World) (hn₀ : n₀ ≤ W.heap.size) (hS : Schm n₀ W sa ts) (hE : Ems n₀ W a es) (hBs : Bs < n₀) (hBf : Bf < n₀)
    (xl : Box W Bl 42 #[.slice a es.length cap]) (xs : Box W Bs 37 #[.slice sa ts.length sc]) (xf : Box W Bf 9 #[.string nm]) (h0 : J [] W) :
    CallsIn Fence.wide n Try.prog 32 #[.func (.yield l) #[] #[], .pointer (some ⟨Bl, 0, none⟩), .pointer (some ⟨Bs, 0, none⟩), .pointer (some ⟨Bf, 0, none⟩)] W fun e W' => (∃ v, e = .returned v) ∧
      (J (fksP ts nm es) W' ∨ (∃ k, k ≤ (fksP ts nm es).length ∧ Jx ((fksP ts nm es).take k) W')) := by
  have hx0 := xl.one.1
  have hel := hE.1
  refine callsIn_of_wp Try.func32 rfl trivial ?_ rfl
  simp only [Try.ntmps32, List.size_toArray, List.length_cons, List.length_nil, Nat.reduceAdd, Nat.reduceSub, Array.replicate_succ, Array.replicate_zero, List.push_toArray, List.append_toArray, List.nil_append, List.cons_append]
  gi_wp2_with fail
  gi_loopw [11] (fun i wr => ∃ k : Nat, k ≤ es.length ∧ i = .int .i64 k ∧ J (fksP ts nm (es.take k)) wr ∧ Below n₀ W wr)
    (fun i _ => es.length - (intOf i).toNat)
  case atStart => exact ⟨0, Nat.zero_le _, rfl, h0, Below.refl _ _⟩
  case round =>
    obtain ⟨k, hk, rfl, hJs, hnx⟩ := hrel
    obtain ⟨V, hV⟩ : ∃ V, V = wr := ⟨_, rfl⟩
    by_cases hlt : k < es.length
    · obtain ⟨e, he⟩ : ∃ e, es[k]? = some e := ⟨_, List.getElem?_eq_getElem hlt⟩
      have hsp := hide (fks_split ts nm es k e he)
      have hst := hide (fks_take ts nm es k e he)
      obtain ⟨b, off, p, ea, hb, hcs, hin⟩ := hE.at he
      obtain ⟨htx, hti⟩ := hin.1
      clear hin he
      obtain ⟨al, tsE, pl, nt, t⟩ := e
      obtain ⟨ta, tcap, ka, kc⟩ := p
      dsimp only at htx hti hsp hst
      subst ea
      replace hcs : ∀ (i : Nat) u, (Em.cs ⟨al, tsE, pl, nt, t⟩ ⟨ta, tcap, ka, kc⟩)[i]? = some u → wr.cell? ⟨b, off + k * 11 + i, none⟩ = some u := fun i u hu => (hnx.cell (p := ⟨b, off + k * 11 + i, none⟩) hb).trans (hcs i u hu)
      have hd0 := hcs 0 _ rfl
      have hd1 := hcs 1 _ rfl
      have hd2 := hcs 2 _ rfl
      have hd3 := hcs 3 _ rfl
      have hd4 := hcs 4 _ rfl
      have hd5 := hcs 5 _ rfl
      have hd6 := hcs 6 _ rfl
      have hd7 := hcs 7 _ rfl
      have hd8 := hcs 8 _ rfl
      have hd9 := hcs 9 _ rfl
      have hd10 := hcs 10 _ rfl
      rw [Nat.add_zero] at hd0
      clear hcs
      have hwr : n₀ ≤ wr.heap.size := Nat.le_trans hn₀ hnx.size
      obtain ⟨Wk, hWk⟩ : ∃ Wk, Wk = wr.alloc (.cells (Em.cs ⟨al, tsE, pl, nt, t⟩ ⟨ta, tcap, ka, kc⟩) 41) := ⟨_, rfl⟩
      have bk : Below wr.heap.size wr Wk := by rw [hWk]; exact (Below.refl _ _).alloc (Nat.le_refl _) _
      have xk : Box Wk wr.heap.size 41 (Em.cs ⟨al, tsE, pl, nt, t⟩ ⟨ta, tcap, ka, kc⟩) := by rw [hWk]; exact Box.new _ _ _
      have JV := hide (hal _ _ _ hJs bk)
      have hkl : (k : Int) < es.length := by omega
      have q1 := xk.at 1 (v := .slice ta tsE.length tcap) rfl
      clear hJs xk
      have bW := hnx.trans (bk.mono hwr)
      gi_upto_region 3 with fail
      rw [← hWk]
      replace hWk := hide hWk
      replace hti := hide hti
      clear hd0 hd1 hd2 hd3 hd4 hd5 hd6 hd7 hd8 hd9 hd10
      replace hV := hide hV
      gi_wp2_with fail
      gi_loopw [18] (fun i wr => ∃ j : Nat, j ≤ tsE.length ∧ i = .int .i64 j ∧ J (fksP ts nm (es.take k) ++ (tsE.map fun t => fkP ts t.1 nm).take j) wr ∧ Below n₀ W wr)
        (fun i _ => tsE.length - (intOf i).toNat)
      case atStart => exact ⟨0, Nat.zero_le _, rfl, by simpa using unhide JV, bW⟩
      case round =>
        obtain ⟨j, hj, rfl, hJs, hnx2⟩ := hrel
        by_cases hlt2 : j < tsE.length
        · obtain ⟨u, hu⟩ : ∃ u, tsE[j]? = some u := ⟨_, List.getElem?_eq_getElem hlt2⟩
          have hs2 := hide (show (fksP ts nm (es.take k) ++ (tsE.map fun t => fkP ts t.1 nm).take j) ++ [fkP ts u.1 nm] = fksP ts nm (es.take k) ++ (tsE.map fun t => fkP ts t.1 nm).take (j + 1) by
            rw [List.take_add_one, List.getElem?_map, hu, List.append_assoc]; rfl)
          have hlen := hide (show (fksP ts nm (es.take k) ++ (tsE.map fun t => fkP ts t.1 nm).take j).length < (fksP ts nm es).length by
            rw [unhide hsp]; simp; omega)
          rcases unhide hti with h | ⟨b2, off2, ea2, hb2, hc2⟩
          · rw [h] at hlt2; simp at hlt2
          subst ea2
          have hc0 : wr.cell? ⟨b2, off2 + j, none⟩ = some (.string u.1) := (hnx2.cell (p := ⟨b2, off2 + j, none⟩) hb2).trans (hc2 j u hu)
          clear hc2 hu
          have hwr2 : n₀ ≤ wr.heap.size := Nat.le_trans hn₀ hnx2.size
          have s2 : Schm wr.heap.size wr sa ts := ⟨(hS.typs.below hnx2).mono hwr2, hS.few, hS.fld⟩
          have cF := hide (fieldKind_c sa sc ts u.1 nm wr s2)
          have c1 := (xs.on hnx2 hBs).one.1
          have c2 := (xf.on hnx2 hBf).one.1
          have hjl : (j : Int) < tsE.length := by omega
          gi_wp2_with fail
          refine ⟨trivial, ?_⟩
          refine (callsIn_wide.2 (unhide cF)).mono ?_
          rintro e W2 ⟨rfl, hb3⟩
          have J2 := hal _ _ _ hJs hb3
          have b3 := hnx2.trans (hb3.mono hwr2)
          obtain ⟨R, hR⟩ : ∃ R, R = fkP ts u.1 nm := ⟨_, rfl⟩
          rw [← hR] at hs2 ⊢
          clear hR
          obtain ⟨fn, tmps, assign, body, hy, hR⟩ := (hY _ R W2 J2 (unhide hlen)).mono
            (R' := fun e W' => ∃ bb : Bool, e = .returned (.bool bb) ∧ Hid ((bb = true ∧ J ((fksP ts nm (es.take k) ++ (tsE.map fun t => fkP ts t.1 nm).take j) ++ [R]) W' ∧ Below n₀ W2 W') ∨ (bb = false ∧ Jx ((fksP ts nm (es.take k) ++ (tsE.map fun t => fkP ts t.1 nm).take j) ++ [R]) W')))
            (fun e W' h => by
              rcases h with ⟨rfl, h⟩ | ⟨rfl, h⟩
              · exact ⟨true, rfl, .inl ⟨rfl, h⟩⟩
              · exact ⟨false, rfl, .inr ⟨rfl, h⟩⟩)
          gi_wp2_with fail
          refine hR.mono ?_
          rintro e W3 ⟨bb, rfl, hbb⟩
          rcases unhide hbb with ⟨rfl, hJ3, hk3⟩ | ⟨rfl, hJx3⟩
          · clear hbb hR hy
            gi_wp2_with fail
            go_roundw
            case rel => exact ⟨j + 1, by omega, by go_num, by rw [← unhide hs2]; exact hJ3, b3.trans hk3⟩
            case measure => simp [intOf]; omega
          · clear hbb hR hy
            gi_wp2_with fail
            refine bodyPost_ret (results_none rfl _ _ _) rfl ?_
            refine ⟨⟨_, rfl⟩, .inr ⟨(fksP ts nm (es.take k)).length + (j + 1), ?_, ?_⟩⟩
            · rw [unhide hsp]; simp; omega
            · rw [unhide hsp, take_mid _ _ _ _ (by simp; omega), ← unhide hs2]; exact hJx3
        · have hje := hide (show (tsE.map fun t => fkP ts t.1 nm).take j = tsE.map fun t => fkP ts t.1 nm from List.take_of_length_le (by simp; omega))
          gi_wp2_with fail
          go_roundw
          case rel => exact ⟨k + 1, by omega, by go_num, by rw [unhide hst, ← unhide hje]; exact hJs, hnx2⟩
          case measure => simp [intOf]; omega
    · have hke := hide (show es.take k = es from List.take_of_length_le (by omega))
      gi_wp2_with fail
      go_end0
      exact ⟨⟨_, rfl⟩, .inl (by rw [← unhide hke]; exact hJs)⟩

theorem fieldKinds_c (a sa : Option Addr) (cap sc : Nat) (ts : List Ty) (nm : ByteArray) (es : List Em) (w : World) (hS : Schm w.heap.size w sa ts) (hE : Ems w.heap.size w a es) :
    Calls Try.prog 21 #[.agg #[.slice sa ts.length sc], .string nm, .slice a es.length cap] w fun r W' => ∃ lb, r = .returned (.func (.func 32) #[] lb) ∧ GivesK W' 32 lb (fksP ts nm es) ∧ Below w.heap.size w W' := by
  obtain ⟨W1, hW1⟩ : ∃ W1, W1 = ((w.alloc (.cells #[.slice sa ts.length sc] 37)).alloc (.cells #[.string nm] 9)).alloc (.cells #[.slice a es.length cap] 42) := ⟨_, rfl⟩
  have b1 : Below w.heap.size w W1 := by rw [hW1]; exact (((Below.refl _ _).alloc (Nat.le_refl _) _).alloc (by simp) _).alloc (by simp; omega) _
  have x1 : Box W1 w.heap.size 37 #[.slice sa ts.length sc] := by rw [hW1]; exact ((Box.new _ _ _).alloc _).alloc _
  have y1 : Box W1 (w.heap.size + 1) 9 #[.string nm] := by
    have := Box.new (w.alloc (.cells #[.slice sa ts.length sc] 37)) 9 #[.string nm]
    rw [World.size_alloc] at this
    rw [hW1]; exact this.alloc _
  have z1 : Box W1 (w.heap.size + 1 + 1) 42 #[.slice a es.length cap] := by
    have := Box.new ((w.alloc (.cells #[.slice sa ts.length sc] 37)).alloc (.cells #[.string nm] 9)) 42 #[.slice a es.length cap]
    simp only [World.size_alloc] at this
    rw [hW1]; exact this
  have s1 := hS.on b1
  have e1 := hE.on b1
  replace hW1 := hide hW1
  go_enter Try.func21, Try.ntmps21
  go_wp2_with fail
  go_ret
  rw [← unhide hW1]
  refine ⟨#[.pointer (some ⟨w.heap.size + 1 + 1, 0, none⟩), .pointer (some ⟨w.heap.size, 0, none⟩), .pointer (some ⟨w.heap.size + 1, 0, none⟩)], rfl, ⟨enters_of Try.func32 (by kernel_rfl) rfl, fun n W hn1 hbW => ?_⟩, b1⟩
  intro l J Jx V hV hJ hJx hY h0
  have hbV : Below W1.heap.size W1 V := hbW.trans (hV.mono hbW.size)
  have hsz := hbV.size
  refine (fks1_in n hn1 l (w.heap.size + 1 + 1) w.heap.size (w.heap.size + 1) W1.heap.size cap sc a sa ts nm es J Jx (fun pre A B h k => own_below hJ pre A B h k) hY V hsz ⟨s1.typs.below hbV, s1.few, s1.fld⟩ (e1.sm (Sm.of_below hbV)) x1.lt y1.lt (z1.on hbV z1.lt) (x1.on hbV x1.lt) (y1.on hbV y1.lt) h0).mono ?_
  rintro e W' ⟨he, hj | ⟨k, hk, hj⟩⟩
  · exact ⟨he, .inl ⟨_, rfl, hj⟩⟩
  · exact ⟨he, .inr ⟨_, ⟨k, hk, rfl⟩, hj⟩⟩
end Go.Proofs.Ytllpigbmkhanjaa
