/-
  What the document's functions on schemas and events answer (package pasternref1, layers 2 and 3): Field, Find, SameEvent: for every argument within the limits, in whatever world; nothing that lay is turned.
-/
import Derived.Test.YtcjpaldijngnpaaGreatDoorRef
import Derived.Test.YtcjpaldijngnpaaGreatDoorAskIs
namespace Go.Proofs.YtcjpaldijngnpaaGreatDoor
open Go.RowKit Go.Shelf



theorem below_dn {B : Nat} {a w : World} (h : Below B a w) (n : Nat) : Below B a (w.drewN n) := ⟨h.os, h.tape, h.output, h.size, h.block⟩

set_option maxHeartbeats 1000000 in
theorem refField_c (nm s : ByteArray) (a : Option Addr) (cap : Nat) (fs : List Fd) (h5 : fs.length ≤ 5) (w : World) (hF : Flds w.heap.size w a fs) :
    Calls Tryz.prog 26 #[.agg #[.string nm, .slice a fs.length cap], .string s] w fun e w' => e = .returned (.int .i64 (placeI (fnames fs) s)) ∧ Below w.heap.size w w' := by
  have xt := Box.new w 69 #[.string nm, .slice a fs.length cap]
  have b0 : Below w.heap.size w (w.alloc (.cells #[.string nm, .slice a fs.length cap] 69)) := (Below.refl _ _).alloc (Nat.le_refl _) _
  obtain ⟨w0, hw0⟩ : ∃ w0, w0 = w.alloc (.cells #[.string nm, .slice a fs.length cap] 69) := ⟨_, rfl⟩
  have F0 := hF.on b0
  rw [← hw0] at xt b0 F0
  have hs0 : Hid (Below w0.heap.size w0 (w.alloc (.cells #[.string nm, .slice a fs.length cap] 69))) := by rw [hw0]; exact Below.refl _ _
  clear hw0 hF
  rcases F0 with rfl | ⟨b, off, rfl, hb, hc⟩
  · have hp := hide (show placeI (fnames []) s = -1 from rfl)
    go_enter Tryz.func26, Tryz.ntmps26
    go_wp2
    go_loopw [5] (fun i wr => i = .int .i64 0 ∧ Below w0.heap.size w0 wr) (fun _ _ => 0)
    case atStart => exact ⟨rfl, unhide hs0⟩
    case round =>
      obtain ⟨rfl, hbw⟩ := hrel
      have ht := (xt.on hbw xt.lt).two.2
      simp only [List.length_nil] at ht
      go_wp2
      go_ret
      exact ⟨by rw [unhide hp]; rfl, b0.trans (hbw.mono b0.size)⟩
  · replace hc := hide hc
    go_enter Tryz.func26, Tryz.ntmps26
    go_wp2
    go_loopw [5] (fun i wr => ∃ k : Nat, k ≤ fs.length ∧ i = .int .i64 k ∧ Hid (noneB s (fnames (fs.take k)) = true) ∧ Below w0.heap.size w0 wr) (fun i _ => fs.length - (intOf i).toNat)
    case atStart => exact ⟨0, Nat.zero_le _, rfl, hide rfl, unhide hs0⟩
    case round =>
      obtain ⟨k, hk, rfl, hall, hbw⟩ := hrel
      have ht := (xt.on hbw xt.lt).two.2
      by_cases hlt : k < fs.length
      · have hc1 : wr.cell? ⟨b, off + k * 2, none⟩ = some (.string (fd fs k).1.1) := (hbw.cell (p := ⟨b, off + k * 2, none⟩) hb).trans (unhide hc k hlt).1
        have hsucc := hide (show fs.take (k + 1) = fs.take k ++ [fd fs k] by rw [List.take_succ_eq_append_getElem hlt]; simp [fd, hlt])
        cases hx : eqT s (fd fs k).1
        · have hx' : ((fd fs k).1.1.toList == s.toList) = false := hx
          have hx2 := hide hx
          clear hx
          go_wp2
          go_roundw
          case rel => exact ⟨k + 1, by omega, by go_num, hide (by rw [unhide hsucc, show fnames (fs.take k ++ [fd fs k]) = fnames (fs.take k) ++ [(fd fs k).1] by simp [fnames], noneB_snoc, unhide hall, unhide hx2]; rfl), hbw⟩
          case measure => simp [intOf]; omega
        · have hx' : ((fd fs k).1.1.toList == s.toList) = true := hx
          have hp := hide (show placeI (fnames fs) s = k by
            have := place_some (ns := fnames fs) (q := fnames (fs.take k)) (x := (fd fs k).1) (k := k + 1) (by
              have : fnames (fs.take (k + 1)) = (fnames fs).take (k + 1) := by simp [fnames, List.map_take]
              rw [← this, unhide hsucc]; simp [fnames]) (unhide hall) hx
            rw [this, fnames_len, List.length_take]
            congr 1
            omega)
          clear hx
          go_wp2
          go_ret
          exact ⟨by rw [unhide hp]; rfl, b0.trans (hbw.mono b0.size)⟩
      · have hp := hide (show placeI (fnames fs) s = -1 from place_none (by
          have := unhide hall
          rwa [List.take_of_length_le (by omega)] at this))
        go_wp2
        go_ret
        exact ⟨by rw [unhide hp]; rfl, b0.trans (hbw.mono b0.size)⟩

set_option maxHeartbeats 2000000 in
theorem refSame_c (x y : Ev) (a a' : Option Addr) (cap cap' : Nat) (h20 : x.vs.length ≤ 20) (h20' : y.vs.length ≤ 20) (w : World) (hV : Vals w.heap.size w a x.vs) (hU : Vals w.heap.size w a' y.vs) :
    Calls Tryz.prog 20 #[.agg #[.string x.ty.1, .int .i64 x.ts, .slice a x.vs.length cap], .agg #[.string y.ty.1, .int .i64 y.ts, .slice a' y.vs.length cap']] w fun e w' => e = .returned (.bool (sameE x y)) ∧ Below w.heap.size w w' := by
  obtain ⟨t, n, vs⟩ := x
  obtain ⟨t', n', us⟩ := y
  simp only at h20 h20' hV hU ⊢
  have xa := (Box.new w 28 #[.string t.1, .int .i64 n, .slice a vs.length cap]).alloc (.cells #[.string t'.1, .int .i64 n', .slice a' us.length cap'] 28)
  have xb := Box.new (w.alloc (.cells #[.string t.1, .int .i64 n, .slice a vs.length cap] 28)) 28 #[.string t'.1, .int .i64 n', .slice a' us.length cap']
  rw [World.size_alloc] at xb
  have b0 : Below w.heap.size w ((w.alloc (.cells #[.string t.1, .int .i64 n, .slice a vs.length cap] 28)).alloc (.cells #[.string t'.1, .int .i64 n', .slice a' us.length cap'] 28)) := ((Below.refl _ _).alloc (Nat.le_refl _) _).alloc (by simp) _
  have sV := hV.on b0
  have sU := hU.on b0
  cases ht : (t.1.toList == t'.1.toList)
  · have H := hide (show sameE ⟨t, n, vs⟩ ⟨t', n', us⟩ = false by simp [sameE, ht])
    go_enter Tryz.func20, Tryz.ntmps20
    go_wp2_with fail
    go_ret
    exact ⟨by rw [unhide H]; rfl, b0⟩
  by_cases hn : n = n'
  · subst hn
    by_cases hl : vs.length = us.length
    · have H := hide (show sameE ⟨t, n, vs⟩ ⟨t', n, us⟩ = samesV vs us by simp [sameE, sameVs, ht, hl])
      obtain ⟨w0, hw0⟩ : ∃ w0, w0 = (w.alloc (.cells #[.string t.1, .int .i64 n, .slice a vs.length cap] 28)).alloc (.cells #[.string t'.1, .int .i64 n, .slice a' us.length cap'] 28) := ⟨_, rfl⟩
      rw [← hw0] at xa xb b0 sV sU
      have hs0 : Hid (Below w0.heap.size w0 ((w.alloc (.cells #[.string t.1, .int .i64 n, .slice a vs.length cap] 28)).alloc (.cells #[.string t'.1, .int .i64 n, .slice a' us.length cap'] 28))) := by rw [hw0]; exact Below.refl _ _
      clear hw0 hV hU
      by_cases hz : vs.length = 0
      · have e1 : vs = [] := List.length_eq_zero_iff.1 hz
        have e2 : us = [] := List.length_eq_zero_iff.1 (by omega)
        subst e1 e2
        clear hz hl
        go_enter Tryz.func20, Tryz.ntmps20
        go_wp2
        go_loopw [5] (fun i wr => i = .int .i64 0 ∧ Below w0.heap.size w0 wr) (fun _ _ => 0)
        case atStart => exact ⟨rfl, unhide hs0⟩
        case round =>
          obtain ⟨rfl, hbw⟩ := hrel
          have ha2 := (xa.on hbw xa.lt).three.2.2
          have hb2 := (xb.on hbw xb.lt).three.2.2
          simp only [List.length_nil] at ha2 hb2
          go_wp2
          go_ret
          exact ⟨by rw [unhide H]; rfl, b0.trans (hbw.mono b0.size)⟩
      · rcases sV with rfl | ⟨b, off, rfl, hb, hc⟩
        · simp at hz
        rcases sU with rfl | ⟨b', off', rfl, hb', hc'⟩
        · simp at hl; exact absurd (by simp [hl]) hz
        have hl' := hide hl
        have hlI : ((vs.length : Int) == us.length) = true := by rw [beq_iff_eq]; omega
        clear hl hz
        replace hc := hide hc
        replace hc' := hide hc'
        go_enter Tryz.func20, Tryz.ntmps20
        go_wp2
        go_loopw [5] (fun i wr => ∃ k : Nat, k ≤ vs.length ∧ i = .int .i64 k ∧ Hid (samesV (vs.take k) (us.take k) = true) ∧ Below w0.heap.size w0 wr) (fun i _ => vs.length - (intOf i).toNat)
        case atStart => exact ⟨0, Nat.zero_le _, rfl, hide rfl, unhide hs0⟩
        case round =>
          obtain ⟨k, hk, rfl, hall, hbw⟩ := hrel
          have ha2 := (xa.on hbw xa.lt).three.2.2
          have hb2 := (xb.on hbw xb.lt).three.2.2
          by_cases hlt : k < vs.length
          · have hltu : k < us.length := by have := unhide hl'; omega
            have c1 := (hbw.cell (p := ⟨b, off + k * 3, none⟩) hb).trans (unhide hc k hlt).1
            have c2 := (hbw.cell (p := ⟨b, off + k * 3 + 1, none⟩) hb).trans (unhide hc k hlt).2.1
            have c3 := (hbw.cell (p := ⟨b, off + k * 3 + 2, none⟩) hb).trans (unhide hc k hlt).2.2
            have d1 := (hbw.cell (p := ⟨b', off' + k * 3, none⟩) hb').trans (unhide hc' k hltu).1
            have d2 := (hbw.cell (p := ⟨b', off' + k * 3 + 1, none⟩) hb').trans (unhide hc' k hltu).2.1
            have d3 := (hbw.cell (p := ⟨b', off' + k * 3 + 2, none⟩) hb').trans (unhide hc' k hltu).2.2
            have hsv := hide (show vs.take (k + 1) = vs.take k ++ [vl vs k] by rw [List.take_succ_eq_append_getElem hlt]; simp [vl, hlt])
            have hsu := hide (show us.take (k + 1) = us.take k ++ [vl us k] by rw [List.take_succ_eq_append_getElem hltu]; simp [vl, hltu])
            have hll := hide (show (vs.take k).length = (us.take k).length by simp; omega)
            obtain ⟨⟨k0, n0, s0⟩, hx⟩ : ∃ x, x = vl vs k := ⟨_, rfl⟩
            obtain ⟨⟨k1, n1, s1⟩, hy⟩ : ∃ x, x = vl us k := ⟨_, rfl⟩
            rw [← hx] at c1 c2 c3
            rw [← hy] at d1 d2 d3
            simp only at c1 c2 c3 d1 d2 d3
            replace hx := hide hx
            replace hy := hide hy
            have hcase : (k0 ≠ k1 ∧ sameV (k0, n0, s0) (k1, n1, s1) = false) ∨ (k0 = k1 ∧ n0 ≠ n1 ∧ sameV (k0, n0, s0) (k1, n1, s1) = false) ∨ (k0 = k1 ∧ n0 = n1 ∧ s0.1.toList ≠ s1.1.toList ∧ sameV (k0, n0, s0) (k1, n1, s1) = false) ∨ (k0 = k1 ∧ n0 = n1 ∧ s0.1.toList = s1.1.toList ∧ sameV (k0, n0, s0) (k1, n1, s1) = true) := by
              unfold sameV
              by_cases q1 : k0 = k1 <;> by_cases q2 : n0 = n1 <;> by_cases q3 : s0.1.toList = s1.1.toList <;> simp [q1, q2, q3]
            have hki : (k : Int) < vs.length := by omega
            have hkj : (k : Int) < us.length := by omega
            have hk0 : (0 : Int) ≤ k := by omega
            rcases hcase with ⟨z1, hs⟩ | ⟨rfl, z2, hs⟩ | ⟨rfl, rfl, z3, hs⟩ | ⟨rfl, rfl, z3, hs⟩
            case inr.inr.inr =>
              replace hs := hide hs
              go_wp2
              go_quiet (fail)
              all_goals go_wp2
              all_goals
                go_roundw
                case rel => exact ⟨k + 1, by omega, by go_num, hide (by rw [unhide hsv, unhide hsu, samesV_snoc _ _ _ _ (unhide hll), unhide hall, ← unhide hx, ← unhide hy, unhide hs]; rfl), below_dn hbw _⟩
                case measure => simp [intOf]; omega
            all_goals
              replace hs := hide hs
              go_wp2
              go_quiet (fail)
              all_goals go_wp2
              all_goals go_ret
              all_goals
                refine ⟨?_, b0.trans ((below_dn hbw _).mono b0.size)⟩
                rw [unhide H, samesV_no vs us (k + 1) (by rw [unhide hsv, unhide hsu, samesV_snoc _ _ _ _ (unhide hll), ← unhide hx, ← unhide hy, unhide hs, Bool.and_false])]
                rfl
          · go_wp2
            go_ret
            refine ⟨?_, b0.trans (hbw.mono b0.size)⟩
            have := unhide hall
            rw [List.take_of_length_le (by omega), List.take_of_length_le (by have := unhide hl'; omega)] at this
            rw [unhide H, this]; rfl
    · have H := hide (show sameE ⟨t, n, vs⟩ ⟨t', n, us⟩ = false by simp [sameE, sameVs, hl])
      have hl' : ((vs.length : Int) == us.length) = false := by rw [beq_eq_false_iff_ne]; omega
      clear hl
      go_enter Tryz.func20, Tryz.ntmps20
      go_wp2_with fail
      go_ret
      exact ⟨by rw [unhide H]; rfl, b0⟩
  · have H := hide (show sameE ⟨t, n, vs⟩ ⟨t', n', us⟩ = false by simp [sameE, hn])
    have hn' : (n == n') = false := by simp [hn]
    clear hn
    go_enter Tryz.func20, Tryz.ntmps20
    go_wp2_with fail
    go_ret
    exact ⟨by rw [unhide H]; rfl, b0⟩

end Go.Proofs.YtcjpaldijngnpaaGreatDoor
