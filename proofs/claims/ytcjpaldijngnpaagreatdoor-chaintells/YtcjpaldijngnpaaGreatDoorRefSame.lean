/-
  What the document's SameSchema answers (package pasternref1, layer 2): whether they are the same: for every two schemas within the limits, in whatever world; nothing that lay is turned.
-/
import Derived.Test.YtcjpaldijngnpaaGreatDoorRefAsk
import Derived.Deep.CutRange
import Derived.Deep.DeepCutAuto
import Derived.BigRegion
namespace Go.Proofs.YtcjpaldijngnpaaGreatDoor
open Go.RowKit Go.Shelf

theorem txt_ext {x y : Txt} (h : x.1.toList = y.1.toList) : x = y := by
  apply Subtype.ext
  rw [ByteArray.toList_eq, ByteArray.toList_eq] at h
  cases hx : x.1
  cases hy : y.1
  rw [hx, hy] at h
  simp only at h
  congr
  exact Array.toList_inj.1 h

theorem list_ext_get {α : Type} [Inhabited α] {l m : List α} (hl : l.length = m.length) (h : ∀ j, j < l.length → l[j]?.getD default = m[j]?.getD default) : l = m := by
  refine List.ext_getElem hl fun j h1 h2 => ?_
  have := h j h1
  simpa [h1, h2] using this

set_option maxRecDepth 100000 in
set_option maxHeartbeats 8000000 in
theorem refSameS_c (a a' : Option Addr) (cap cap' : Nat) (ts us : List Ty) (h5 : ts.length ≤ 5) (hk5 : ∀ k, (ty ts k).2.length ≤ 5) (hk5' : ∀ k, (ty us k).2.length ≤ 5) (w : World) (hT : Typs w.heap.size w a ts) (hU : Typs w.heap.size w a' us) :
    Calls Tryz.prog 21 #[.agg #[.slice a ts.length cap], .agg #[.slice a' us.length cap']] w fun e w' => ∃ b : Bool, e = .returned (.bool b) ∧ Below w.heap.size w w' ∧ Hid (b = true ↔ ts = us) := by
  have xs := (Box.new w 24 #[.slice a ts.length cap]).alloc (.cells #[.slice a' us.length cap'] 24)
  have xu := Box.new (w.alloc (.cells #[.slice a ts.length cap] 24)) 24 #[.slice a' us.length cap']
  rw [World.size_alloc] at xu
  have b0 : Below w.heap.size w ((w.alloc (.cells #[.slice a ts.length cap] 24)).alloc (.cells #[.slice a' us.length cap'] 24)) := ((Below.refl _ _).alloc (Nat.le_refl _) _).alloc (by simp) _
  by_cases hl : ts.length = us.length
  · rw [← hl]
    rw [← hl] at xs xu b0
    have hl' := hide hl
    clear hl
    obtain ⟨w0, hw0⟩ : ∃ w0, w0 = (w.alloc (.cells #[.slice a ts.length cap] 24)).alloc (.cells #[.slice a' ts.length cap'] 24) := ⟨_, rfl⟩
    have T0 := hT.on b0
    have U0 := hU.on b0
    rw [← hw0] at xs xu b0 T0 U0
    have hs0 : Hid (Below w0.heap.size w0 ((w.alloc (.cells #[.slice a ts.length cap] 24)).alloc (.cells #[.slice a' ts.length cap'] 24))) := by rw [hw0]; exact Below.refl _ _
    clear hw0 hT hU
    go_enter Tryz.func21, Tryz.ntmps21
    go_wp2
    go_loopw [5] (fun i wr => ∃ q : Nat, q ≤ ts.length ∧ i = .int .i64 q ∧ Hid (∀ j, j < q → ty ts j = ty us j) ∧ Below w0.heap.size w0 wr) (fun i _ => ts.length - (intOf i).toNat)
    case atStart => exact ⟨0, Nat.zero_le _, rfl, hide (fun j hj => by omega), unhide hs0⟩
    case round =>
      obtain ⟨q, hq, rfl, hall, hbw⟩ := hrel
      have hs := (xs.on hbw xs.lt).one.1
      have hu := (xu.on hbw xu.lt).one.1
      have bw := b0.trans (hbw.mono b0.size)
      by_cases hlt : q < ts.length
      · obtain ⟨b, off, rfl, hc1, a1, c1, hc2, hF⟩ := (T0.on hbw).at q hlt
        obtain ⟨b', off', rfl, hd1, a2, c2, hd2, hG⟩ := (U0.on hbw).at q (by have := unhide hl'; omega)
        obtain ⟨W0, eW⟩ : ∃ W0, W0 = wr := ⟨_, rfl⟩
        subst eW
        obtain ⟨⟨nm, fs⟩, ht⟩ : ∃ t, t = ty ts q := ⟨_, rfl⟩
        obtain ⟨⟨mm, gs⟩, hm⟩ : ∃ t, t = ty us q := ⟨_, rfl⟩
        have hf5 := hk5 q
        have hg5 := hk5' q
        rw [← ht] at hc1 hc2 hF hf5
        rw [← hm] at hd1 hd2 hG hg5
        simp only at hc1 hc2 hF hf5 hd1 hd2 hG hg5
        replace ht := hide ht
        replace hm := hide hm
        replace hF := hide hF
        replace hG := hide hG
        have hlb := cell_lt hc1
        have hlb' := cell_lt hd1
        simp only at hlb hlb'
        have hbs := (xs.on hbw xs.lt).lt
        have hbu := (xu.on hbw xu.lt).lt
        go_upto_region 6 with fail
        go_cut [6, 7] (fun x y wx => ∃ B1 B2, x = .pointer (some ⟨B1, 0, none⟩) ∧ y = .pointer (some ⟨B2, 0, none⟩) ∧ Box wx B1 69 #[.string nm.1, .slice a1 fs.length c1] ∧ Box wx B2 69 #[.string mm.1, .slice a2 gs.length c2] ∧ Below W0.heap.size W0 wx)
        case first =>
          go_region
          · go_wp2
            go_meet
            case rel =>
              have y1 := (Box.new W0 69 #[.string nm.1, .slice a1 fs.length c1]).alloc (.cells #[.string mm.1, .slice a2 gs.length c2] 69)
              have y2 := Box.new (W0.alloc (.cells #[.string nm.1, .slice a1 fs.length c1] 69)) 69 #[.string mm.1, .slice a2 gs.length c2]
              rw [World.size_alloc] at y2
              exact ⟨_, _, rfl, rfl, y1.drew, y2.drew, (((Below.refl _ _).alloc (Nat.le_refl _) _).alloc (by simp) _).drew⟩
          · go_wp2
            go_meet
            case rel =>
              have y1 := (Box.new W0 69 #[.string mm.1, .slice a2 gs.length c2]).alloc (.cells #[.string nm.1, .slice a1 fs.length c1] 69)
              have y2 := Box.new (W0.alloc (.cells #[.string mm.1, .slice a2 gs.length c2] 69)) 69 #[.string nm.1, .slice a1 fs.length c1]
              rw [World.size_alloc] at y2
              exact ⟨_, _, rfl, rfl, y2.drew, y1.drew, (((Below.refl _ _).alloc (Nat.le_refl _) _).alloc (by simp) _).drew⟩
        case rest =>
          obtain ⟨B1, B2, rfl, rfl, x1, x2, bx⟩ := hcut
          have F1 := hide ((unhide hF).on bx)
          have G1 := hide ((unhide hG).on bx)
          have bX := hbw.trans (bx.mono hbw.size)
          have hno := hide (show (nm, fs) ≠ (mm, gs) → ts ≠ us from fun h e => h (by rw [unhide ht, unhide hm, e]))
          obtain ⟨t10, t11⟩ := x1.two
          obtain ⟨t20, t21⟩ := x2.two
          have hs0' := hide (Below.refl wc.heap.size wc)
          obtain ⟨W1, eW1⟩ : ∃ W1, W1 = wc := ⟨_, rfl⟩
          subst eW1
          clear hs hu hc1 hc2 hd1 hd2 hF hG hlb hlb' hbs hbu bw
          cases hq1 : (nm.1.toList == mm.1.toList)
          · have hx := hide (show ts ≠ us from unhide hno (fun e => by have e1 : nm = mm := congrArg Prod.fst e; rw [e1] at hq1; simp at hq1))
            go_wp2_with fail
            go_ret
            exact ⟨false, rfl, b0.trans (bX.mono b0.size), hide ⟨fun h => (by cases h), fun h => (unhide hx h).elim⟩⟩
          · have hnm : nm = mm := txt_ext (by simpa using hq1)
            replace hnm := hide hnm
            by_cases hfl : fs.length = gs.length
            · have hfl' := hide hfl
              rw [← hfl] at t21
              clear hfl
              go_wp2_with fail
              go_loopw [8] (fun i wx => ∃ p : Nat, p ≤ fs.length ∧ i = .int .i64 p ∧ Hid (∀ j, j < p → fd fs j = fd gs j) ∧ Below W1.heap.size W1 wx) (fun i _ => fs.length - (intOf i).toNat)
              case atStart => exact ⟨0, Nat.zero_le _, rfl, hide (fun j hj => by omega), unhide hs0'⟩
              case round =>
                obtain ⟨p, hp, rfl, hpf, hbx⟩ := hrel
                clear t10 t11 t20 t21
                obtain ⟨t10, t11⟩ := (x1.on hbx x1.lt).two
                obtain ⟨t20, t21⟩ := (x2.on hbx x2.lt).two
                rw [← unhide hfl'] at t21
                have F3 := (unhide F1).on hbx
                have G3 := (unhide G1).on hbx
                have bXX := bX.trans (hbx.mono bX.size)
                by_cases hpl : p < fs.length
                · rcases F3 with rfl | ⟨bf, of', rfl, hbf, hcf⟩
                  · simp at hpl
                  rcases G3 with rfl | ⟨bg, og, rfl, hbg, hcg⟩
                  · have := unhide hfl'; simp at this; rw [this] at hpl; simp at hpl
                  obtain ⟨f0, f1⟩ := hcf p hpl
                  obtain ⟨g0, g1⟩ := hcg p (by have := unhide hfl'; omega)
                  clear hcf hcg
                  obtain ⟨⟨fn, fk⟩, hf⟩ : ∃ f, f = fd fs p := ⟨_, rfl⟩
                  obtain ⟨⟨gn, gk⟩, hg⟩ : ∃ f, f = fd gs p := ⟨_, rfl⟩
                  rw [← hf] at f0 f1
                  rw [← hg] at g0 g1
                  simp only at f0 f1 g0 g1
                  have hnf := hide (show (fn, fk) ≠ (gn, gk) → ts ≠ us from fun h => unhide hno (fun e => h (by rw [hf, hg]; have e2 : fs = gs := congrArg Prod.snd e; rw [e2])))
                  replace hf := hide hf
                  replace hg := hide hg
                  cases hqn : (fn.1.toList == gn.1.toList)
                  · have hx := hide (show ts ≠ us from unhide hnf (fun e => by have e1 : fn = gn := congrArg Prod.fst e; rw [e1] at hqn; simp at hqn))
                    go_wp2_with fail
                    go_quiet (fail)
                    go_wp2_with fail
                    go_ret
                    exact ⟨false, rfl, below_dn (b0.trans (bXX.mono b0.size)) _, hide ⟨fun h => (by cases h), fun h => (unhide hx h).elim⟩⟩
                  · have hfn := hide (show fn = gn from txt_ext (by simpa using hqn))
                    by_cases hkk : fk = gk
                    · have hk' : (fk == gk) = true := by simp [hkk]
                      have hs' := hide (show ∀ j, j < p + 1 → fd fs j = fd gs j from fun j hj => by
                        by_cases e : j = p
                        · subst e; rw [← unhide hf, ← unhide hg, unhide hfn, hkk]
                        · exact unhide hpf j (by omega))
                      clear hkk
                      go_wp2_with fail
                      go_quiet (fail)
                      go_wp2_with fail
                      exact ⟨⟨p + 1, by omega, by go_num, hs', below_dn hbx _⟩, by simp [intOf]; omega⟩
                    · have hk' : (fk == gk) = false := by simp [hkk]
                      have hx := hide (show ts ≠ us from unhide hnf (fun e => hkk (congrArg Prod.snd e)))
                      clear hkk
                      go_wp2_with fail
                      go_quiet (fail)
                      go_wp2_with fail
                      go_ret
                      exact ⟨false, rfl, below_dn (b0.trans (bXX.mono b0.size)) _, hide ⟨fun h => (by cases h), fun h => (unhide hx h).elim⟩⟩
                · have hfs := hide (show fs = gs from list_ext_get (unhide hfl') (fun j hj => unhide hpf j (by omega)))
                  have hs' := hide (show ∀ j, j < q + 1 → ty ts j = ty us j from fun j hj => by
                    by_cases e : j = q
                    · subst e; rw [← unhide ht, ← unhide hm, unhide hnm, unhide hfs]
                    · exact unhide hall j (by omega))
                  go_wp2_with fail
                  exact ⟨⟨q + 1, by omega, by go_num, hs', bXX⟩, by simp [intOf]; omega⟩
            · have hx := hide (show ts ≠ us from unhide hno (fun e => hfl (by have e2 : fs = gs := congrArg Prod.snd e; rw [e2])))
              have hfl2 : ((fs.length : Int) != gs.length) = true := by simp; omega
              clear hfl
              go_wp2_with fail
              go_ret
              exact ⟨false, rfl, b0.trans (bX.mono b0.size), hide ⟨fun h => (by cases h), fun h => (unhide hx h).elim⟩⟩
      · have hr := hide (show ts = us from list_ext_get (unhide hl') (fun j hj => unhide hall j (by omega)))
        go_wp2
        go_ret
        exact ⟨true, rfl, bw, hide ⟨fun _ => unhide hr, fun _ => rfl⟩⟩
  · have hx := hide (show ts ≠ us from fun e => hl (by rw [e]))
    have hl2 : ((ts.length : Int) != us.length) = true := by simp; omega
    clear hl
    go_enter Tryz.func21, Tryz.ntmps21
    go_wp2
    go_ret
    exact ⟨false, rfl, b0, hide ⟨fun h => (by cases h), fun h => (unhide hx h).elim⟩⟩

end Go.Proofs.YtcjpaldijngnpaaGreatDoor
