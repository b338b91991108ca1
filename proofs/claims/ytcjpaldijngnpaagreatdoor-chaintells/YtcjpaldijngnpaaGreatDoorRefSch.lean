/-
  What the document's IsSchema answers (package pasternref1, layer 2): true just where the types are few enough, their names rise, and each type's fields are few enough, with names that are names, each once, and kinds that are kinds: for every schema, in whatever world; nothing that lay is turned.
-/
import Derived.Test.YtcjpaldijngnpaaGreatDoorRefAsk
import Derived.Deep.CutRange
import Derived.Deep.DeepCutAuto
namespace Go.Proofs.YtcjpaldijngnpaaGreatDoor
open Go.RowKit Go.Shelf

/-- A field of a type may be: its name, its kind, and that no other ahead of it is called so. -/
def SchFd (fs : List Fd) (p : Nat) : Prop := nameB (fd fs p).1.1 = true ∧ 1 ≤ (fd fs p).2 ∧ (fd fs p).2 ≤ 3 ∧ placeI (fnames fs) (fd fs p).1.1 = p
def SchF (fs : List Fd) : Prop := fs.length ≤ 5 ∧ ∀ p, p < fs.length → SchFd fs p
/-- A type of a schema may be, where it stands. -/
def SchT (ts : List Ty) (k : Nat) : Prop := nameB (ty ts k).1.1 = true ∧ (0 < k → Op.bytesLess (ty ts (k - 1)).1.1.toList (ty ts k).1.1.toList = true) ∧ SchF (ty ts k).2
/-- A schema that may be. -/
def Sch (ts : List Ty) : Prop := ts.length ≤ 5 ∧ ∀ k, k < ts.length → SchT ts k

theorem Typs.bound {n : Nat} {W : World} {a : Option Addr} {ts : List Ty} (h : Typs n W a ts) (k : Nat) (hk : k < ts.length) : (ty ts k).2.length ≤ maxLen := by
  rcases h with rfl | ⟨b, off, rfl, hb, hc⟩
  · simp at hk
  · obtain ⟨_, _, _, _, _, h4⟩ := hc k hk
    exact h4

set_option maxRecDepth 100000 in
set_option maxHeartbeats 8000000 in
theorem refSch_c (a : Option Addr) (cap : Nat) (ts : List Ty) (hm : ts.length ≤ maxLen) (w : World) (hT : Typs w.heap.size w a ts) :
    Calls Tryz.prog 7 #[.agg #[.slice a ts.length cap]] w fun e w' => ∃ b : Bool, e = .returned (.bool b) ∧ Below w.heap.size w w' ∧ Hid (b = true ↔ Sch ts) := by
  unfold maxLen at hm
  have hmx : Tryz.prog.follows .mixedOrders = true := by kernel_rfl
  have xs := Box.new w 24 #[.slice a ts.length cap]
  have b0 : Below w.heap.size w (w.alloc (.cells #[.slice a ts.length cap] 24)) := (Below.refl _ _).alloc (Nat.le_refl _) _
  by_cases h5 : ts.length ≤ 5
  · obtain ⟨w0, hw0⟩ : ∃ w0, w0 = w.alloc (.cells #[.slice a ts.length cap] 24) := ⟨_, rfl⟩
    have T0 := hT.on b0
    rw [← hw0] at xs b0 T0
    have hs0 : Hid (Below w0.heap.size w0 (w.alloc (.cells #[.slice a ts.length cap] 24))) := by rw [hw0]; exact Below.refl _ _
    clear hw0 hT
    go_enter Tryz.func7, Tryz.ntmps7
    go_wp2
    go_loopw [3] (fun i wr => ∃ q : Nat, q ≤ ts.length ∧ i = .int .i64 q ∧ Hid (∀ k, k < q → SchT ts k) ∧ Below w0.heap.size w0 wr) (fun i _ => ts.length - (intOf i).toNat)
    case atStart => exact ⟨0, Nat.zero_le _, rfl, hide (fun k hk => by omega), unhide hs0⟩
    case round =>
      obtain ⟨q, hq, rfl, hall, hbw⟩ := hrel
      have hs := (xs.on hbw xs.lt).one.1
      have bw := b0.trans (hbw.mono b0.size)
      by_cases hlt : q < ts.length
      · obtain ⟨b, off, rfl, hc1, a', c', hc2, hF⟩ := (T0.on hbw).at q hlt
        have hpv : 0 < q → wr.cell? ⟨b, off + (q - 1) * 2, none⟩ = some (.string (ty ts (q - 1)).1.1) := fun h => by
          obtain ⟨b2, off2, e2, h1, _⟩ := (T0.on hbw).at (q - 1) (by omega)
          cases e2
          exact h1
        obtain ⟨W0, eW⟩ : ∃ W0, W0 = wr := ⟨_, rfl⟩
        subst eW
        obtain ⟨nm, hnm⟩ : ∃ nm : Txt, nm = (ty ts q).1 := ⟨_, rfl⟩
        obtain ⟨fs, hfs⟩ : ∃ fs : List Fd, fs = (ty ts q).2 := ⟨_, rfl⟩
        rw [← hnm] at hc1
        rw [← hfs] at hc2 hF
        have xt := Box.new W0 69 #[.string nm.1, .slice a' fs.length c']
        have bt : Below W0.heap.size W0 (W0.alloc (.cells #[.string nm.1, .slice a' fs.length c'] 69)) := (Below.refl _ _).alloc (Nat.le_refl _) _
        have F1 := hF.on bt
        have hbs := xs.on hbw xs.lt
        have hls := hbs.lt
        have hlb := cell_lt hc1
        simp only at hlb
        have T1 := hide (T0.on hbw)
        replace hnm := hide hnm
        replace hfs := hide hfs
        replace hF := hide hF
        go_upto_region 7 with fail
        obtain ⟨W1, hW1⟩ : ∃ W1, W1 = W0.alloc (.cells #[.string nm.1, .slice a' fs.length c'] 69) := ⟨_, rfl⟩
        rw [← hW1] at xt bt F1 ⊢
        have ys : W1.cell? ⟨w.heap.size, 0, none⟩ = some (.slice (some ⟨b, off, none⟩) ts.length cap) := (bt.cell (p := ⟨w.heap.size, 0, none⟩) hls).trans hs
        obtain ⟨yt0, yt1⟩ := xt.two
        have hpv1 : 0 < q → W1.cell? ⟨b, off + (q - 1) * 2, none⟩ = some (.string (ty ts (q - 1)).1.1) := fun h => (bt.cell (p := ⟨b, off + (q - 1) * 2, none⟩) hlb).trans (hpv h)
        replace hW1 := hide hW1
        clear hs hc1 hc2 hpv
        have hlen : fs.length ≤ 9223372036854775807 := by
          have := (unhide T1).bound q hlt
          rw [← unhide hfs] at this
          unfold maxLen at this
          omega
        go_cut [48] (fun g wx => ∃ (G : Bool) (d : Nat), g = .bool G ∧ wx = W1.drewN d ∧ Hid ((G = false → nameB nm.1 = true ∧ (0 < q → Op.bytesLess (ty ts (q - 1)).1.1.toList nm.1.toList = true) ∧ fs.length ≤ 5) ∧ (G = true → ¬ (nameB nm.1 = true ∧ (0 < q → Op.bytesLess (ty ts (q - 1)).1.1.toList nm.1.toList = true) ∧ fs.length ≤ 5))))
        case first =>
          clear T1 F1 hall hfs hF
          cases hN : nameB nm.1
          · have hx := hide (show ¬ (nameB nm.1 = true ∧ (0 < q → Op.bytesLess (ty ts (q - 1)).1.1.toList nm.1.toList = true) ∧ fs.length ≤ 5) from fun h => by rw [hN] at h; simp at h)
            have cN : ∀ W, Calls Tryz.prog 25 #[.string nm.1] W fun e w' => e = .returned (.bool false) ∧ w' = W := fun W => by rw [← hN]; exact refName_c nm.1 W nm.2
            clear hN hpv1
            go_quiet ((go_at_call 25; exact Calls.quiet_of_same (cN _)))
            go_wp2
            go_meet
            case rel => exact ⟨true, _, rfl, rfl, hide ⟨fun h => (by cases h), fun _ => unhide hx⟩⟩
          · have cN : ∀ W, Calls Tryz.prog 25 #[.string nm.1] W fun e w' => e = .returned (.bool true) ∧ w' = W := fun W => by rw [← hN]; exact refName_c nm.1 W nm.2
            replace hN := hide hN
            cases q with
            | zero =>
              clear hpv1
              by_cases hf : fs.length ≤ 5
              · have hf' : ¬ (5 : Int) < fs.length := by omega
                have hx := hide (show nameB nm.1 = true ∧ (0 < 0 → Op.bytesLess (ty ts (0 - 1)).1.1.toList nm.1.toList = true) ∧ fs.length ≤ 5 from ⟨unhide hN, fun h => (by omega), hf⟩)
                clear hf
                go_quiet ((go_at_call 25; exact Calls.quiet_of_same (cN _)))
                go_wp2
                go_meet
                case rel => exact ⟨false, _, rfl, rfl, hide ⟨fun _ => unhide hx, fun h => (by cases h)⟩⟩
              · have hf' : (5 : Int) < fs.length := by omega
                have hx := hide (show ¬ (nameB nm.1 = true ∧ (0 < 0 → Op.bytesLess (ty ts (0 - 1)).1.1.toList nm.1.toList = true) ∧ fs.length ≤ 5) from fun h => hf h.2.2)
                clear hf
                go_quiet ((go_at_call 25; exact Calls.quiet_of_same (cN _)))
                go_wp2
                go_meet
                case rel => exact ⟨true, _, rfl, rfl, hide ⟨fun h => (by cases h), fun _ => unhide hx⟩⟩
            | succ p =>
              have hp1 := hpv1 (by omega)
              obtain ⟨pn, hpn⟩ : ∃ pn : ByteArray, pn = (ty ts (p + 1 - 1)).1.1 := ⟨_, rfl⟩
              rw [← hpn] at hp1
              replace hpn := hide hpn
              rw [Nat.add_sub_cancel] at hp1
              have e1 : ((p + 1 : Nat) : Int) - 1 = (p : Int) := by omega
              have e2 : IntKind.i64.wrap (p : Int) = (p : Int) := by rw [IntKind.wrap_i64]; omega
              have e3 : (0 : Int) < ((p + 1 : Nat) : Int) := by omega
              have e4 : (p : Int) < ts.length := by omega
              have e5 : (0 : Int) ≤ (p : Int) := by omega
              clear hpv1
              cases hL : Op.bytesLess pn.toList nm.1.toList
              · have hx := hide (show ¬ (nameB nm.1 = true ∧ (0 < p + 1 → Op.bytesLess (ty ts (p + 1 - 1)).1.1.toList nm.1.toList = true) ∧ fs.length ≤ 5) from fun h => by have := h.2.1 (by omega); rw [← unhide hpn, hL] at this; cases this)
                go_quiet ((go_at_call 25; exact Calls.quiet_of_same (cN _)))
                go_wp2
                go_meet
                case rel => exact ⟨true, _, rfl, rfl, hide ⟨fun h => (by cases h), fun _ => unhide hx⟩⟩
              · by_cases hf : fs.length ≤ 5
                · have hf' : ¬ (5 : Int) < fs.length := by omega
                  have hx := hide (show nameB nm.1 = true ∧ (0 < p + 1 → Op.bytesLess (ty ts (p + 1 - 1)).1.1.toList nm.1.toList = true) ∧ fs.length ≤ 5 from ⟨unhide hN, fun _ => by rw [← unhide hpn]; exact hL, hf⟩)
                  clear hf
                  go_quiet ((go_at_call 25; exact Calls.quiet_of_same (cN _)))
                  go_wp2
                  go_meet
                  case rel => exact ⟨false, _, rfl, rfl, hide ⟨fun _ => unhide hx, fun h => (by cases h)⟩⟩
                · have hf' : (5 : Int) < fs.length := by omega
                  have hx := hide (show ¬ (nameB nm.1 = true ∧ (0 < p + 1 → Op.bytesLess (ty ts (p + 1 - 1)).1.1.toList nm.1.toList = true) ∧ fs.length ≤ 5) from fun h => hf h.2.2)
                  clear hf
                  go_quiet ((go_at_call 25; exact Calls.quiet_of_same (cN _)))
                  go_wp2
                  go_meet
                  case rel => exact ⟨true, _, rfl, rfl, hide ⟨fun h => (by cases h), fun _ => unhide hx⟩⟩
        case rest =>
          obtain ⟨G, d, rfl, rfl, hG⟩ := hcut
          have bW1 := hbw.trans (bt.mono hbw.size)
          have bWd := below_dn bW1 d
          have bD : Below W1.heap.size W1 (W1.drewN d) := below_dn (Below.refl _ _) d
          have xtd := xt.on bD xt.lt
          have F1d := hide (F1.on bD)
          obtain ⟨W2, hW2⟩ : ∃ W2, W2 = W1.drewN d := ⟨_, rfl⟩
          rw [← hW2] at bWd xtd F1d ⊢
          clear hW2 bD ys yt0 yt1 hpv1 F1 xt bt hW1 bW1 hF hlb hls hbs T1 hlen
          cases G with
          | true =>
            have hx := hide (show ¬ Sch ts from fun h => (unhide hG).2 rfl (by
              have hq := h.2 q hlt
              rw [unhide hnm, unhide hfs]
              exact ⟨hq.1, hq.2.1, hq.2.2.1⟩))
            clear hG
            go_wp2_with fail
            go_ret
            exact ⟨false, rfl, b0.trans (bWd.mono b0.size), hide ⟨fun h => (by cases h), fun h => (unhide hx h).elim⟩⟩
          | false =>
            have hg3 := (unhide hG).1 rfl
            have hf5 : fs.length ≤ 5 := hg3.2.2
            replace hg3 := hide hg3
            have hall' := hide (show SchF fs → ∀ k, k < q + 1 → SchT ts k from fun hF k hk => by
              by_cases e : k = q
              · subst e
                have h3 := unhide hg3
                rw [unhide hnm, unhide hfs] at h3
                rw [unhide hfs] at hF
                exact ⟨h3.1, h3.2.1, hF⟩
              · exact unhide hall k (by omega))
            have hno := hide (show ∀ p, p < fs.length → ¬ SchFd fs p → ¬ Sch ts from fun p hp hn h => hn (by
              have := (h.2 q hlt).2.2.2 p
              rw [← unhide hfs] at this
              exact this hp))
            have bS0 := hide (Below.refl W2.heap.size W2)
            clear hG hall
            go_wp2_with fail
            go_loopw [5] (fun i wx => ∃ p : Nat, p ≤ fs.length ∧ i = .int .i64 p ∧ Hid (∀ j, j < p → SchFd fs j) ∧ Below W2.heap.size W2 wx) (fun i _ => fs.length - (intOf i).toNat)
            case atStart => exact ⟨0, Nat.zero_le _, rfl, hide (fun j hj => by omega), unhide bS0⟩
            case round =>
              obtain ⟨p, hp, rfl, hpf, hbx⟩ := hrel
              have xt3 := xtd.on hbx xtd.lt
              obtain ⟨ht0, ht1⟩ := xt3.two
              have F3 := (unhide F1d).on hbx
              have bx := bWd.trans (hbx.mono bWd.size)
              have bxx := b0.trans (bx.mono b0.size)
              by_cases hpl : p < fs.length
              · have hcl := F3
                rcases hcl with rfl | ⟨b', off', rfl, hb', hc'⟩
                · simp at hpl
                obtain ⟨g0, g1⟩ := hc' p hpl
                clear hc'
                obtain ⟨⟨fn, fk⟩, hf⟩ : ∃ f, f = fd fs p := ⟨_, rfl⟩
                rw [← hf] at g0 g1
                simp only at g0 g1
                have bf : Below wr.heap.size wr (wr.alloc (.cells #[.string fn.1, .int .i64 fk] 66)) := (Below.refl _ _).alloc (Nat.le_refl _) _
                have xf := Box.new wr 66 #[.string fn.1, .int .i64 fk]
                have xt4 := xt3.alloc (.cells #[.string fn.1, .int .i64 fk] 66)
                have F4 := hide (F3.on bf)
                have bff := bxx.alloc bxx.size (.cells #[.string fn.1, .int .i64 fk] 66)
                have bfl := hide (hbx.trans (bf.mono hbx.size))
                have hlt3 := xt3.lt
                replace hf := hide hf
                replace F3 := hide F3
                obtain ⟨wf, hwf⟩ : ∃ wf, wf = wr.alloc (.cells #[.string fn.1, .int .i64 fk] 66) := ⟨_, rfl⟩
                go_upto_region 13 with fail
                rw [← hwf] at bf xf xt4 F4 bff bfl ⊢
                clear hwf ht0 ht1 g0 g1 hlt3 F3 xt3
                obtain ⟨hf0, hf1⟩ := xf.two
                obtain ⟨ht0, ht1⟩ := xt4.two
                cases hN : nameB fn.1
                · have hx := hide (show ¬ Sch ts from unhide hno p hpl (fun h => by have := h.1; rw [← unhide hf] at this; simp only at this; rw [hN] at this; cases this))
                  go_wp2_with fail
                  refine (refName_c fn.1 _ fn.2).mono ?_
                  rintro e w4 ⟨rfl, rfl⟩
                  rw [hN]
                  go_wp2_with fail
                  go_ret
                  exact ⟨false, rfl, bff, hide ⟨fun h => (by cases h), fun h => (unhide hx h).elim⟩⟩
                · by_cases hk1 : fk < 1
                  · have hx := hide (show ¬ Sch ts from unhide hno p hpl (fun h => by have := h.2.1; rw [← unhide hf] at this; simp only at this; omega))
                    go_wp2_with fail
                    refine (refName_c fn.1 _ fn.2).mono ?_
                    rintro e w4 ⟨rfl, rfl⟩
                    rw [hN]
                    go_wp2_with fail
                    go_ret
                    exact ⟨false, rfl, bff, hide ⟨fun h => (by cases h), fun h => (unhide hx h).elim⟩⟩
                  · by_cases hk3 : 3 < fk
                    · have hx := hide (show ¬ Sch ts from unhide hno p hpl (fun h => by have := h.2.2.1; rw [← unhide hf] at this; simp only at this; omega))
                      go_wp2_with fail
                      refine (refName_c fn.1 _ fn.2).mono ?_
                      rintro e w4 ⟨rfl, rfl⟩
                      rw [hN]
                      go_wp2_with fail
                      go_ret
                      exact ⟨false, rfl, bff, hide ⟨fun h => (by cases h), fun h => (unhide hx h).elim⟩⟩
                    · go_wp2_with fail
                      refine (refName_c fn.1 _ fn.2).mono ?_
                      rintro e w4 ⟨rfl, rfl⟩
                      rw [hN]
                      go_wp2_with fail
                      refine (refField_c nm.1 fn.1 _ c' fs hf5 _ (unhide F4)).mono ?_
                      rintro e w5 ⟨rfl, hb5⟩
                      obtain ⟨pl, hpl'⟩ : ∃ pl, pl = placeI (fnames fs) fn.1 := ⟨_, rfl⟩
                      rw [← hpl']
                      replace hpl' := hide hpl'
                      by_cases he : pl = (p : Int)
                      · have hs := hide (show ∀ j, j < p + 1 → SchFd fs j from fun j hj => by
                          by_cases e : j = p
                          · subst e
                            refine ⟨?_, ?_, ?_, ?_⟩ <;> rw [← unhide hf]
                            · exact hN
                            · simp only; omega
                            · simp only; omega
                            · rw [← unhide hpl']; exact he
                          · exact unhide hpf j (by omega))
                        subst he
                        go_wp2_with fail
                        exact ⟨⟨p + 1, by omega, by go_num, hs, (unhide bfl).trans (hb5.mono (unhide bfl).size)⟩, by simp [intOf]; omega⟩
                      · have he' : (pl != (p : Int)) = true := by simp [he]
                        have hx := hide (show ¬ Sch ts from unhide hno p hpl (fun h => he (by have := h.2.2.2; rw [← unhide hf] at this; rw [unhide hpl']; exact this)))
                        clear he
                        go_wp2_with fail
                        go_ret
                        exact ⟨false, rfl, bff.trans (hb5.mono bff.size), hide ⟨fun h => (by cases h), fun h => (unhide hx h).elim⟩⟩
              · have hF5 := hide (show ∀ k, k < q + 1 → SchT ts k from unhide hall' ⟨hf5, fun j hj => unhide hpf j (by omega)⟩)
                go_wp2_with fail
                exact ⟨⟨q + 1, by omega, by go_num, hF5, bx⟩, by simp [intOf]; omega⟩
      · have hr := hide (show Sch ts from ⟨h5, fun k hk => unhide hall k (by omega)⟩)
        go_wp2
        go_ret
        exact ⟨true, rfl, bw, hide ⟨fun _ => unhide hr, fun _ => rfl⟩⟩
  · have h5' : (5 : Int) < ts.length := by omega
    go_enter Tryz.func7, Tryz.ntmps7
    go_wp2
    go_ret
    exact ⟨false, rfl, b0, hide ⟨fun h => (by cases h), fun h => (by have := h.1; omega)⟩⟩

end Go.Proofs.YtcjpaldijngnpaaGreatDoor
