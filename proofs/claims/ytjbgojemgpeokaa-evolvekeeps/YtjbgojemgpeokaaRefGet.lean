/-
  What the document's Get and IsEvent answer (package pasternref1, layer 3): the same as the program's: for every schema, event and name within the limits, in whatever world; nothing that lay is turned.
-/
import Derived.Test.YtjbgojemgpeokaaRefAsk
namespace Go.Proofs.Ytjbgojemgpeokaa
open Go.RowKit Go.Shelf

set_option maxHeartbeats 2000000 in
theorem refGet_c (a av : Option Addr) (cap cv : Nat) (ts : List Ty) (x : Ev) (f : ByteArray) (h5 : ts.length ≤ 5) (hk5 : ∀ k, (ty ts k).2.length ≤ 5) (h20 : x.vs.length ≤ 20) (w : World) (hT : Typs w.heap.size w a ts) (hV : Vals w.heap.size w av x.vs) :
    Calls Try.prog 14 #[.agg #[.slice a ts.length cap], .agg #[.string x.ty.1, .int .i64 x.ts, .slice av x.vs.length cv], .string f] w fun e W' => e = .returned (gotV (getE ts x f)) ∧ Below w.heap.size w W' := by
  obtain ⟨t, n, vs⟩ := x
  simp only at h20 hV ⊢
  obtain ⟨rv, hrv⟩ : ∃ rv, rv = gotV (getE ts ⟨t, n, vs⟩ f) := ⟨_, rfl⟩
  rw [← hrv]
  replace hrv := hide hrv
  obtain ⟨w0, hw0⟩ : ∃ w0, w0 = (w.alloc (.cells #[.slice a ts.length cap] 24)).alloc (.cells #[.string t.1, .int .i64 n, .slice av vs.length cv] 31) := ⟨_, rfl⟩
  have e0 : w0.heap.size = w.heap.size + 1 + 1 := by rw [hw0]; simp
  have b00 : Below w.heap.size w w0 := by rw [hw0]; exact ((Below.refl _ _).alloc (Nat.le_refl _) _).alloc (by simp) _
  have xe0 : Box w0 (w.heap.size + 1) 31 #[.string t.1, .int .i64 n, .slice av vs.length cv] := by
    have := Box.new (w.alloc (.cells #[.slice a ts.length cap] 24)) 31 #[.string t.1, .int .i64 n, .slice av vs.length cv]
    rw [World.size_alloc] at this
    rw [hw0]; exact this
  have b0 : Below w.heap.size w (w0.alloc (.cells #[.int .i64 0, .int .i64 0, .string ⟨#[]⟩] 26)) := b00.alloc b00.size _
  have xe := xe0.alloc (.cells #[.int .i64 0, .int .i64 0, .string ⟨#[]⟩] 26)
  have xr := Box.new w0 26 #[.int .i64 0, .int .i64 0, .string ⟨#[]⟩]
  rw [e0] at xr
  have T0 := hT.on b0
  have V0 := hV.on b0
  rw [hw0] at xe xr b0 T0 V0
  clear xe0 b00 e0 hw0 w0 hT hV
  go_enter Try.func14, Try.ntmps14
  go_wp2_with fail
  refine (refFind_c a cap ts t.1 h5 _ T0).mono ?_
  rintro e w1 ⟨hb1, hcase⟩
  have b1 := b0.trans (hb1.mono b0.size)
  have xe1 := xe.on hb1 xe.lt
  have xr1 := xr.on hb1 xr.lt
  have V1 := V0.on hb1
  rcases unhide hcase with ⟨hp, rfl⟩ | ⟨k, a', c', hp, hkt, rfl, hF⟩
  · have hr := hide (show rv = .tuple #[zeroV, .bool false] by rw [unhide hrv]; simp [getE, hp, gotV])
    clear hcase hp hrv
    have bt : Below w1.heap.size w1 (w1.alloc (.cells #[.string ⟨#[]⟩, .slice none 0 0] 44)) := (Below.refl _ _).alloc (Nat.le_refl _) _
    have fcall := refField_c ⟨#[]⟩ f none 0 [] (by decide) (w1.alloc (.cells #[.string ⟨#[]⟩, .slice none 0 0] 44)) (.inl rfl)
    rw [show placeI (fnames []) f = -1 from rfl] at fcall
    replace fcall := hide fcall
    go_wp2_with fail
    refine (unhide fcall).mono ?_
    rintro e w2 ⟨rfl, hb2⟩
    have q2 := bt.trans (hb2.mono bt.size)
    have xr2 := xr1.on q2 xr1.lt
    obtain ⟨hc0, hc1, hc2⟩ := xr2.three
    have hf0 := xr2.frz 0
    have hf1 := xr2.frz 1
    have hf2 := xr2.frz 2
    have b2 := b1.trans (q2.mono b1.size)
    go_wp2_with fail
    obtain ⟨hq0, hq1, hq2⟩ := (((xr2.set 0 (.int .i64 0)).set 1 (.int .i64 0)).set 2 (.string ⟨#[]⟩)).three
    exact bodyPost_ret (v := .tuple #[zeroV, .bool false]) (by simp [results, Try.results14, go_sem, hq0, hq1, hq2]) rfl ⟨by rw [unhide hr], ((b2.setCell (p := ⟨w.heap.size + 1 + 1, 0, none⟩) (by simp only; omega) _).setCell (p := ⟨w.heap.size + 1 + 1, 1, none⟩) (by simp only; omega) _).setCell (p := ⟨w.heap.size + 1 + 1, 2, none⟩) (by simp only; omega) _⟩
  · have bt : Below w1.heap.size w1 (w1.alloc (.cells #[.string (ty ts k).1.1, .slice a' (ty ts k).2.length c'] 44)) := (Below.refl _ _).alloc (Nat.le_refl _) _
    have fcall := refField_c (ty ts k).1.1 f a' c' (ty ts k).2 (hk5 k) _ (hF.on bt)
    have hgot := hide (show getE ts ⟨t, n, vs⟩ f = match placeN (fnames (ty ts k).2) f with | none => none | some q => if q < vs.length then some (vl vs q) else none by
      simp only [getE, hp]
      exact slTo_find f (ty ts k).2 vs)
    clear hcase hp
    have hcs : (placeI (fnames (ty ts k).2) f = -1 ∧ rv = .tuple #[zeroV, .bool false]) ∨ ∃ q : Nat, placeI (fnames (ty ts k).2) f = q ∧ ((vs.length ≤ q ∧ q < 5 ∧ rv = .tuple #[zeroV, .bool false]) ∨ (q < vs.length ∧ rv = .tuple #[vlV (vl vs q), .bool true])) := by
      rw [unhide hrv, unhide hgot]
      unfold placeI
      cases h : placeN (fnames (ty ts k).2) f with
      | none => exact .inl ⟨rfl, rfl⟩
      | some q =>
        refine .inr ⟨q, rfl, ?_⟩
        have hql : q < 5 := by have := placeN_lt h; rw [fnames_len] at this; have := hk5 k; omega
        by_cases hq : q < vs.length
        · exact .inr ⟨hq, by simp [hq, gotV]⟩
        · exact .inl ⟨by omega, hql, by simp [hq, gotV]⟩
    clear hgot hrv
    rcases hcs with ⟨hpi, hr⟩ | ⟨q, hpi, hcs⟩
    · rw [hpi] at fcall
      replace fcall := hide fcall
      replace hr := hide hr
      clear hpi
      go_wp2_with fail
      refine (unhide fcall).mono ?_
      rintro e w2 ⟨rfl, hb2⟩
      have q2 := bt.trans (hb2.mono bt.size)
      have xr2 := xr1.on q2 xr1.lt
      obtain ⟨hc0, hc1, hc2⟩ := xr2.three
      have hf0 := xr2.frz 0
      have hf1 := xr2.frz 1
      have hf2 := xr2.frz 2
      have b2 := b1.trans (q2.mono b1.size)
      go_wp2_with fail
      obtain ⟨hq0, hq1, hq2⟩ := (((xr2.set 0 (.int .i64 0)).set 1 (.int .i64 0)).set 2 (.string ⟨#[]⟩)).three
      exact bodyPost_ret (v := .tuple #[zeroV, .bool false]) (by simp [results, Try.results14, go_sem, hq0, hq1, hq2]) rfl ⟨by rw [unhide hr], ((b2.setCell (p := ⟨w.heap.size + 1 + 1, 0, none⟩) (by simp only; omega) _).setCell (p := ⟨w.heap.size + 1 + 1, 1, none⟩) (by simp only; omega) _).setCell (p := ⟨w.heap.size + 1 + 1, 2, none⟩) (by simp only; omega) _⟩
    · rw [hpi] at fcall
      replace fcall := hide fcall
      clear hpi
      rcases hcs with ⟨hge, hq5, hr⟩ | ⟨hlt, hr⟩
      · replace hr := hide hr
        have hge' : (vs.length : Int) ≤ (q : Int) := by omega
        go_wp2_with fail
        refine (unhide fcall).mono ?_
        rintro e w2 ⟨rfl, hb2⟩
        have q2 := bt.trans (hb2.mono bt.size)
        have xr2 := xr1.on q2 xr1.lt
        have xe2 := xe1.on q2 xe1.lt
        have he2 := xe2.three.2.2
        obtain ⟨hc0, hc1, hc2⟩ := xr2.three
        have hf0 := xr2.frz 0
        have hf1 := xr2.frz 1
        have hf2 := xr2.frz 2
        have b2 := b1.trans (q2.mono b1.size)
        go_wp2_with fail
        obtain ⟨hq0, hq1, hq2⟩ := (((xr2.set 0 (.int .i64 0)).set 1 (.int .i64 0)).set 2 (.string ⟨#[]⟩)).three
        exact bodyPost_ret (v := .tuple #[zeroV, .bool false]) (by simp [results, Try.results14, go_sem, hq0, hq1, hq2]) rfl ⟨by rw [unhide hr], ((b2.setCell (p := ⟨w.heap.size + 1 + 1, 0, none⟩) (by simp only; omega) _).setCell (p := ⟨w.heap.size + 1 + 1, 1, none⟩) (by simp only; omega) _).setCell (p := ⟨w.heap.size + 1 + 1, 2, none⟩) (by simp only; omega) _⟩
      · replace hr := hide hr
        have hlt' : ¬ (vs.length : Int) ≤ (q : Int) := by omega
        go_wp2_with fail
        refine (unhide fcall).mono ?_
        rintro e w2 ⟨rfl, hb2⟩
        have q2 := bt.trans (hb2.mono bt.size)
        have xr2 := xr1.on q2 xr1.lt
        have xe2 := xe1.on q2 xe1.lt
        have V2 := V1.on q2
        have he2 := xe2.three.2.2
        obtain ⟨hc0, hc1, hc2⟩ := xr2.three
        have hf0 := xr2.frz 0
        have hf1 := xr2.frz 1
        have hf2 := xr2.frz 2
        have b2 := b1.trans (q2.mono b1.size)
        rcases V2 with rfl | ⟨b, off, rfl, hb, hc⟩
        · simp at hlt
        obtain ⟨g0, g1, g2⟩ := hc q hlt
        clear hc
        go_wp2_with fail
        obtain ⟨hq0, hq1, hq2⟩ := (((xr2.set 0 (.int .i64 (vl vs q).1)).set 1 (.int .i64 (vl vs q).2.1)).set 2 (.string (vl vs q).2.2.1)).three
        exact bodyPost_ret (v := .tuple #[vlV (vl vs q), .bool true]) (by simp [results, Try.results14, go_sem, hq0, hq1, hq2]) rfl ⟨by rw [unhide hr], ((b2.setCell (p := ⟨w.heap.size + 1 + 1, 0, none⟩) (by simp only; omega) _).setCell (p := ⟨w.heap.size + 1 + 1, 1, none⟩) (by simp only; omega) _).setCell (p := ⟨w.heap.size + 1 + 1, 2, none⟩) (by simp only; omega) _⟩

end Go.Proofs.Ytjbgojemgpeokaa
