/-
  What the document's IsEvent answers (package pasternref1, layer 3): the same as the program's: for every schema and event within the limits, in whatever world; nothing that lay is turned.
-/
import Derived.Test.YtcjpaldijngnpaaGreatDoorRefAsk
namespace Go.Proofs.YtcjpaldijngnpaaGreatDoor
open Go.RowKit Go.Shelf

set_option maxRecDepth 100000 in
set_option maxHeartbeats 4000000 in
theorem refIsE_c (a av : Option Addr) (cap cv : Nat) (ts : List Ty) (x : Ev) (h5 : ts.length ≤ 5) (hk5 : ∀ k, (ty ts k).2.length ≤ 5) (h20 : x.vs.length ≤ 20) (w : World) (hT : Typs w.heap.size w a ts) (hV : Vals w.heap.size w av x.vs) :
    Calls Tryz.prog 23 #[.agg #[.slice a ts.length cap], .agg #[.string x.ty.1, .int .i64 x.ts, .slice av x.vs.length cv]] w fun e W' => e = .returned (.int .i64 (isE ts x)) ∧ Below w.heap.size w W' := by
  obtain ⟨t, n, vs⟩ := x
  simp only at h20 hV ⊢
  obtain ⟨rv, hrv⟩ : ∃ rv, rv = isE ts ⟨t, n, vs⟩ := ⟨_, rfl⟩
  rw [← hrv]
  replace hrv := hide hrv
  have xe := Box.new (w.alloc (.cells #[.slice a ts.length cap] 24)) 28 #[.string t.1, .int .i64 n, .slice av vs.length cv]
  rw [World.size_alloc] at xe
  have b0 : Below w.heap.size w ((w.alloc (.cells #[.slice a ts.length cap] 24)).alloc (.cells #[.string t.1, .int .i64 n, .slice av vs.length cv] 28)) := ((Below.refl _ _).alloc (Nat.le_refl _) _).alloc (by simp) _
  have T0 := hT.on b0
  have V0 := hV.on b0
  clear hT hV
  go_enter Tryz.func23, Tryz.ntmps23
  go_wp2_with fail
  refine (refFind_c a cap ts t.1 h5 _ T0).mono ?_
  rintro e w1 ⟨hb1, hcase⟩
  have b1 := b0.trans (hb1.mono b0.size)
  have xe1 := xe.on hb1 xe.lt
  have V1 := V0.on hb1
  rcases unhide hcase with ⟨hp, rfl⟩ | ⟨k, a', c', hp, hkt, rfl, hF⟩
  · have hr := hide (show rv = 13 by rw [unhide hrv]; simp [isE, hp])
    clear hcase hp hrv
    go_wp2_with fail
    go_ret
    exact ⟨by rw [unhide hr]; rfl, b1.alloc b1.size _⟩
  · obtain ⟨fs, hfs⟩ : ∃ fs, fs = (ty ts k).2 := ⟨_, rfl⟩
    have hf5 := hk5 k
    have hr := hide (show rv = if wholeB fs.length n vs then (if kindsB (slTo fs vs (min fs.length vs.length)) then 0 else 14) else 10 by rw [unhide hrv, hfs]; simp [isE, hp])
    rw [← hfs] at hF hf5 ⊢
    clear hcase hp hrv hfs
    have bt : Below w1.heap.size w1 (w1.alloc (.cells #[.string (ty ts k).1.1, .slice a' fs.length c'] 69)) := (Below.refl _ _).alloc (Nat.le_refl _) _
    have xt2 := Box.new w1 69 #[.string (ty ts k).1.1, .slice a' fs.length c']
    have xe2 := xe1.alloc (.cells #[.string (ty ts k).1.1, .slice a' fs.length c'] 69)
    have V2 := V1.on bt
    have F2 := hF.on bt
    have b2 := b1.trans (bt.mono b1.size)
    obtain ⟨w2, hw2⟩ : ∃ w2, w2 = w1.alloc (.cells #[.string (ty ts k).1.1, .slice a' fs.length c'] 69) := ⟨_, rfl⟩
    have hs0 : Hid (Below w2.heap.size w2 (w1.alloc (.cells #[.string (ty ts k).1.1, .slice a' fs.length c'] 69))) := by rw [hw2]; exact Below.refl _ _
    obtain ⟨he0, he1, he2⟩ := xe1.three
    have hl1 := xe1.lt
    by_cases hin : 0 ≤ n ∧ n ≤ 1073741824 ∧ vs.length = fs.length
    · obtain ⟨h0, h1, hl⟩ := hin
      rw [← hw2] at xt2 xe2 V2 F2 b2
      clear hw2
      have hn0 : ¬ n < 0 := by omega
      have hn1 : ¬ 1073741824 < n := by omega
      have hr2 := hide (show rv = if anyNo vs then 10 else (if kindsB (slTo fs vs vs.length) then 0 else 14) by
        rw [unhide hr]
        have e1 : wholeB fs.length n vs = !anyNo vs := by simp [wholeB, h0, h1, hl]
        have e2 : min fs.length vs.length = vs.length := by omega
        rw [e1, e2]
        cases anyNo vs <;> simp)
      rw [← hl] at xt2 hs0 ⊢
      have hl' := hide hl
      clear hl hr h0 h1 hf5 bt hF
      replace V2 := hide V2
      replace F2 := hide F2
      go_wp2_with fail
      go_loopw [7] (fun i wr => ∃ q : Nat, q ≤ vs.length ∧ i = .int .i64 q ∧ Hid (anyNo (vs.take q) = false) ∧ Below w2.heap.size w2 wr) (fun i _ => vs.length - (intOf i).toNat)
      case atStart => exact ⟨0, Nat.zero_le _, rfl, hide rfl, unhide hs0⟩
      case round =>
        obtain ⟨q, hq, rfl, hall, hbw⟩ := hrel
        have he2' := (xe2.on hbw xe2.lt).three.2.2
        have bw := b2.trans (hbw.mono b2.size)
        by_cases hlt : q < vs.length
        · rcases (unhide V2).below hbw with rfl | ⟨b, off, rfl, hb, hc⟩
          · simp at hlt
          obtain ⟨g0, g1, g2⟩ := hc q hlt
          clear hc
          have hsucc := hide (show vs.take (q + 1) = vs.take q ++ [vl vs q] by rw [List.take_succ_eq_append_getElem hlt]; simp [vl, hlt])
          cases hbad : noV (vl vs q)
          · have hbad' : isB (vl vs q).1 (vl vs q).2.1 (vl vs q).2.2.1 = true := by simpa [noV] using hbad
            go_wp2_with fail
            refine (refIs_c _ _ _ _ (vl vs q).2.2.2).mono ?_
            rintro e w4 ⟨rfl, hb4⟩
            rw [hbad']
            go_wp2_with fail
            go_roundw
            case rel => exact ⟨q + 1, by omega, by go_num, hide (by rw [unhide hsucc, anyNo_snoc, unhide hall, hbad]; rfl), hbw.trans (hb4.mono hbw.size)⟩
            case measure => simp [intOf]; omega
          · have hbad' : isB (vl vs q).1 (vl vs q).2.1 (vl vs q).2.2.1 = false := by simpa [noV] using hbad
            go_wp2_with fail
            refine (refIs_c _ _ _ _ (vl vs q).2.2.2).mono ?_
            rintro e w4 ⟨rfl, hb4⟩
            rw [hbad']
            go_wp2_with fail
            go_ret
            refine ⟨?_, bw.trans (hb4.mono bw.size)⟩
            have ha : anyNo vs = true := by
              have h1 : anyNo (vs.take (q + 1)) = true := by rw [unhide hsucc, anyNo_snoc, hbad, Bool.or_true]
              unfold anyNo at h1 ⊢
              rw [List.any_eq_true] at h1 ⊢
              obtain ⟨y, hy, hb⟩ := h1
              exact ⟨y, List.mem_of_mem_take hy, hb⟩
            rw [unhide hr2, ha]; rfl
        · have ha := hide (show anyNo vs = false by
            have := unhide hall
            rwa [List.take_of_length_le (by omega)] at this)
          have hbw0 := hide hbw
          go_wp2_with fail
          go_loopw [8] (fun i wx => ∃ q : Nat, q ≤ vs.length ∧ i = .int .i64 q ∧ Hid (kindsB (slTo fs vs q) = true) ∧ Below w2.heap.size w2 wx) (fun i _ => vs.length - (intOf i).toNat)
          case atStart => exact ⟨0, Nat.zero_le _, rfl, hide rfl, unhide hbw0⟩
          case round =>
            clear he2' bw hbw hall
            obtain ⟨p, hp, rfl, hall, hbw⟩ := hrel
            have he2' := (xe2.on hbw xe2.lt).three.2.2
            have ht1 := (xt2.on hbw xt2.lt).two.2
            have bw := b2.trans (hbw.mono b2.size)
            by_cases hlt : p < vs.length
            · have hltf : p < fs.length := by have := unhide hl'; omega
              rcases (unhide V2).below hbw with rfl | ⟨b, off, rfl, hb, hc⟩
              · simp at hlt
              rcases (unhide F2).below hbw with rfl | ⟨b', off', rfl, hb', hc'⟩
              · simp at hltf
              have g0 := (hc p hlt).1
              have g1 := (hc' p hltf).2
              clear hc hc'
              have hpi : (p : Int) < vs.length := by omega
              have hp0 : (0 : Int) ≤ p := by omega
              by_cases hx : (vl vs p).1 = (fd fs p).2
              · have hx' : ((vl vs p).1 == (fd fs p).2) = true := by rw [beq_iff_eq]; exact hx
                have hx2 := hide hx
                clear hx
                go_wp2
                go_quiet (fail)
                all_goals go_wp2
                all_goals
                  go_roundw
                  case rel => exact ⟨p + 1, by omega, by go_num, hide (by rw [slTo_succ, kindsB_snoc, unhide hall]; simp [unhide hx2]), below_dn hbw _⟩
                  case measure => simp [intOf]; omega
              · have hx' : ((vl vs p).1 == (fd fs p).2) = false := by rw [beq_eq_false_iff_ne]; exact hx
                have hx2 := hide hx
                clear hx
                go_wp2
                go_quiet (fail)
                all_goals go_wp2
                all_goals go_ret
                all_goals
                  refine ⟨?_, below_dn bw _⟩
                  rw [unhide hr2, unhide ha, kinds_no fs vs (p + 1) vs.length (by omega) (by rw [slTo_succ, kindsB_snoc]; simp [unhide hx2])]
                  rfl
            · have hpe : p = vs.length := by omega
              have hr3 := hide (show rv = 0 by
                have := unhide hall
                rw [hpe] at this
                rw [unhide hr2, unhide ha, this]; rfl)
              clear hpe
              go_wp2
              go_ret
              exact ⟨by rw [unhide hr3]; rfl, bw⟩
    · rw [← hw2] at b2
      have hr2 := hide (show rv = 10 by
        rw [unhide hr]
        have : wholeB fs.length n vs = false := by
          unfold wholeB
          by_cases h0 : 0 ≤ n
          · by_cases h1 : n ≤ 1073741824
            · simp [show ¬ vs.length = fs.length by omega]
            · simp [h1]
          · simp [h0]
        rw [this]; rfl)
      have hcs : n < 0 ∨ (¬ n < 0 ∧ 1073741824 < n) ∨ (¬ n < 0 ∧ ¬ 1073741824 < n ∧ ((vs.length : Int) == fs.length) = false) := by
        by_cases h0 : n < 0
        · exact .inl h0
        · by_cases h1 : 1073741824 < n
          · exact .inr (.inl ⟨h0, h1⟩)
          · exact .inr (.inr ⟨h0, h1, by rw [beq_eq_false_iff_ne]; omega⟩)
      rw [hw2] at b2
      clear hin hr hs0 hw2 V2 F2
      rcases hcs with h0 | ⟨h0, h1⟩ | ⟨h0, h1, h2⟩
      · go_wp2_with fail
        go_ret
        exact ⟨by rw [unhide hr2]; rfl, b2⟩
      · go_wp2_with fail
        go_ret
        exact ⟨by rw [unhide hr2]; rfl, b2⟩
      · have h3 : ((vs.length : Int) != fs.length) = true := by rw [bne, h2]; rfl
        go_wp2_with fail
        go_ret
        exact ⟨by rw [unhide hr2]; rfl, b2⟩

end Go.Proofs.YtcjpaldijngnpaaGreatDoor
