/-
  What the document's Find, Get and IsEvent answer (package pasternref1, layers 2 and 3): the same as the program's: for every schema, event and name within the limits, in whatever world; nothing that lay is turned.
-/
import Derived.Test.YtcjpaldijngnpaaGreatDoorRefEv
namespace Go.Proofs.YtcjpaldijngnpaaGreatDoor
open Go.RowKit Go.Shelf

theorem Typs.at {n : Nat} {W : World} {a : Option Addr} {ts : List Ty} (h : Typs n W a ts) (k : Nat) (hk : k < ts.length) : ∃ b off, a = some ⟨b, off, none⟩ ∧ W.cell? ⟨b, off + k * 2, none⟩ = some (.string (ty ts k).1.1) ∧ ∃ a' c', W.cell? ⟨b, off + k * 2 + 1, none⟩ = some (.slice a' (ty ts k).2.length c') ∧ Flds n W a' (ty ts k).2 := by
  rcases h with rfl | ⟨b, off, rfl, hb, hc⟩
  · simp at hk
  · obtain ⟨h1, a', c', h2, h3, _⟩ := hc k hk
    exact ⟨b, off, rfl, h1, a', c', h2, h3⟩

set_option maxHeartbeats 2000000 in
theorem refFind_c (a : Option Addr) (cap : Nat) (ts : List Ty) (nm : ByteArray) (h5 : ts.length ≤ 5) (w : World) (hT : Typs w.heap.size w a ts) :
    Calls Tryz.prog 44 #[.agg #[.slice a ts.length cap], .string nm] w fun e w' => Below w.heap.size w w' ∧ Hid ((placeN (tnames ts) nm = none ∧ e = .returned (.tuple #[.agg #[.string ⟨#[]⟩, .slice none 0 0], .bool false])) ∨ ∃ k a' c', placeN (tnames ts) nm = some k ∧ k < ts.length ∧ e = .returned (.tuple #[.agg #[.string (ty ts k).1.1, .slice a' (ty ts k).2.length c'], .bool true]) ∧ Flds w'.heap.size w' a' (ty ts k).2) := by
  have xs := (Box.new w 24 #[.slice a ts.length cap]).alloc (.cells #[.string ⟨#[]⟩, .slice none 0 0] 69)
  have xr := Box.new (w.alloc (.cells #[.slice a ts.length cap] 24)) 69 #[.string ⟨#[]⟩, .slice none 0 0]
  rw [World.size_alloc] at xr
  have b0 : Below w.heap.size w ((w.alloc (.cells #[.slice a ts.length cap] 24)).alloc (.cells #[.string ⟨#[]⟩, .slice none 0 0] 69)) := ((Below.refl _ _).alloc (Nat.le_refl _) _).alloc (by simp) _
  obtain ⟨w0, hw0⟩ : ∃ w0, w0 = (w.alloc (.cells #[.slice a ts.length cap] 24)).alloc (.cells #[.string ⟨#[]⟩, .slice none 0 0] 69) := ⟨_, rfl⟩
  rw [← hw0] at xs xr b0
  have hs0 : Hid (Below w0.heap.size w0 ((w.alloc (.cells #[.slice a ts.length cap] 24)).alloc (.cells #[.string ⟨#[]⟩, .slice none 0 0] 69))) := by rw [hw0]; exact Below.refl _ _
  clear hw0
  go_enter Tryz.func44, Tryz.ntmps44
  go_wp2
  go_loopw [6] (fun i wr => ∃ k : Nat, k ≤ ts.length ∧ i = .int .i64 k ∧ Hid (noneB nm (tnames (ts.take k)) = true) ∧ Below w0.heap.size w0 wr) (fun i _ => ts.length - (intOf i).toNat)
  case atStart => exact ⟨0, Nat.zero_le _, rfl, hide rfl, unhide hs0⟩
  case round =>
    obtain ⟨k, hk, rfl, hall, hbw⟩ := hrel
    have hs := (xs.on hbw xs.lt).one.1
    have xr' := xr.on hbw xr.lt
    obtain ⟨hr0, hr1⟩ := xr'.two
    have hf0 := xr'.frz 0
    have hf1 := xr'.frz 1
    by_cases hlt : k < ts.length
    · obtain ⟨b, off, rfl, hc1, a', c', hc2, hF⟩ := (hT.below (b0.trans (hbw.mono b0.size))).at k hlt
      have hsucc := hide (show ts.take (k + 1) = ts.take k ++ [ty ts k] by rw [List.take_succ_eq_append_getElem hlt]; simp [ty, hlt])
      cases hx : eqT nm (ty ts k).1
      · have hx' : ((ty ts k).1.1.toList == nm.toList) = false := hx
        have hx2 := hide hx
        clear hx
        go_wp2
        go_roundw
        case rel => exact ⟨k + 1, by omega, by go_num, hide (by rw [unhide hsucc, show tnames (ts.take k ++ [ty ts k]) = tnames (ts.take k) ++ [(ty ts k).1] by simp [tnames], noneB_snoc, unhide hall, unhide hx2]; rfl), hbw⟩
        case measure => simp [intOf]; omega
      · have hx' : ((ty ts k).1.1.toList == nm.toList) = true := hx
        have hp := hide (show placeN (tnames ts) nm = some k by
          have e2 : tnames ts = tnames (ts.take k) ++ ((ty ts k).1 :: tnames (ts.drop (k + 1))) := by
            conv => lhs; rw [← List.take_append_drop (k + 1) ts]
            rw [unhide hsucc]
            simp [tnames]
          have h0 : List.findIdx? (eqT nm) (tnames (ts.take k)) = none := by
            rw [List.findIdx?_eq_none_iff]; simpa [noneB] using unhide hall
          rw [placeN, e2, List.findIdx?_append, h0]
          simp [List.findIdx?_cons, hx, tnames_len]
          omega)
        replace hF := hide hF
        clear hx
        go_wp2
        have xr2 := (xr'.set 0 (.string (ty ts k).1.1)).set 1 (.slice a' (ty ts k).2.length c')
        obtain ⟨hq0, hq1⟩ := xr2.two
        have bb := ((b0.trans (hbw.mono b0.size)).setCell (p := ⟨w.heap.size + 1, 0, none⟩) (by simp only; omega) (.string (ty ts k).1.1)).setCell (p := ⟨w.heap.size + 1, 1, none⟩) (by simp only; omega) (.slice a' (ty ts k).2.length c')
        refine bodyPost_ret (v := .tuple #[.agg #[.string (ty ts k).1.1, .slice a' (ty ts k).2.length c'], .bool true]) (by simp [results, Tryz.results44, go_sem, hq0, hq1]) rfl ⟨bb, hide (.inr ⟨k, a', c', unhide hp, hlt, rfl, ?_⟩)⟩
        exact ((unhide hF).below (((Below.refl w.heap.size wr).setCell (p := ⟨w.heap.size + 1, 0, none⟩) (by simp only; omega) (.string (ty ts k).1.1)).setCell (p := ⟨w.heap.size + 1, 1, none⟩) (by simp only; omega) (.slice a' (ty ts k).2.length c'))).mono bb.size
    · have hp := hide (show placeN (tnames ts) nm = none by
        have := unhide hall
        rw [List.take_of_length_le (by omega)] at this
        simp only [placeN, List.findIdx?_eq_none_iff]
        simpa [noneB] using this)
      go_wp2
      have xr2 := (xr'.set 0 (.string ⟨#[]⟩)).set 1 (.slice none 0 0)
      obtain ⟨hq0, hq1⟩ := xr2.two
      have bb := ((b0.trans (hbw.mono b0.size)).setCell (p := ⟨w.heap.size + 1, 0, none⟩) (by simp only; omega) (.string ⟨#[]⟩)).setCell (p := ⟨w.heap.size + 1, 1, none⟩) (by simp only; omega) (.slice none 0 0)
      exact bodyPost_ret (v := .tuple #[.agg #[.string ⟨#[]⟩, .slice none 0 0], .bool false]) (by simp [results, Tryz.results44, go_sem, hq0, hq1]) rfl ⟨bb, hide (.inl ⟨unhide hp, rfl⟩)⟩

def nameS (f : ByteArray) (x : Sl) : Bool := eqT f x.1.1

abbrev vlV (v : Vl) : Value := .agg #[.int .i64 v.1, .int .i64 v.2.1, .string v.2.2.1]

abbrev zeroV : Value := .agg #[.int .i64 0, .int .i64 0, .string ⟨#[]⟩]

/-- What Get finds. -/
def getS (f : ByteArray) (l : List Sl) : Option Vl := (l.find? (nameS f)).map (·.2)

def getE (ts : List Ty) (x : Ev) (f : ByteArray) : Option Vl :=
  match placeN (tnames ts) x.ty.1 with
  | none => none
  | some k => getS f (slTo (ty ts k).2 x.vs (min (ty ts k).2.length x.vs.length))

def gotV : Option Vl → Value
  | none => .tuple #[zeroV, .bool false]
  | some v => .tuple #[vlV v, .bool true]


theorem slTo_find (f : ByteArray) (fs : List Fd) (vs : List Vl) : getS f (slTo fs vs (min fs.length vs.length)) = match placeN (fnames fs) f with | none => none | some k => if k < vs.length then some (vl vs k) else none := by
  have hmap : ∀ m, m ≤ fs.length → getS f (slTo fs vs m) = match ((fnames fs).take m).findIdx? (eqT f) with | none => none | some k => some (vl vs k) := by
    intro m hm
    induction m with
    | zero => simp [slTo, getS]
    | succ m ih =>
      have ih := ih (by omega)
      have hlt : m < fs.length := by omega
      have e1 : (fnames fs).take (m + 1) = (fnames fs).take m ++ [(fd fs m).1] := by
        rw [List.take_succ_eq_append_getElem (by rw [fnames_len]; exact hlt)]
        simp [fnames, fd, hlt]
      have hl : ((fnames fs).take m).length = m := by rw [List.length_take, fnames_len]; omega
      have e2 : getS f (slTo fs vs (m + 1)) = match getS f (slTo fs vs m) with | some v => some v | none => if eqT f (fd fs m).1 then some (vl vs m) else none := by
        rw [slTo_succ, getS, List.find?_append, getS]
        cases h : List.find? (nameS f) (slTo fs vs m) with
        | some x => simp
        | none => cases h2 : eqT f (fd fs m).1 <;> simp [nameS, h2]
      rw [e2, ih, e1, List.findIdx?_append]
      cases h : List.findIdx? (eqT f) ((fnames fs).take m) with
      | some k => simp
      | none =>
        cases h2 : eqT f (fd fs m).1
        · simp [List.findIdx?_cons, h2]
        · simp [List.findIdx?_cons, h2, hl]
  rw [hmap _ (Nat.min_le_left _ _)]
  have hfull : (fnames fs).findIdx? (eqT f) = match ((fnames fs).take (min fs.length vs.length)).findIdx? (eqT f) with | some k => some k | none => (((fnames fs).drop (min fs.length vs.length)).findIdx? (eqT f)).map (· + min fs.length vs.length) := by
    conv => lhs; rw [← List.take_append_drop (min fs.length vs.length) (fnames fs)]
    rw [List.findIdx?_append]
    have hl : ((fnames fs).take (min fs.length vs.length)).length = min fs.length vs.length := by rw [List.length_take, fnames_len]; omega
    rw [hl]
    cases ((fnames fs).take (min fs.length vs.length)).findIdx? (eqT f) <;> simp
  rw [placeN, hfull]
  cases h : ((fnames fs).take (min fs.length vs.length)).findIdx? (eqT f) with
  | some k =>
    have hk := (List.findIdx?_eq_some_iff_getElem.1 h).1
    rw [List.length_take, fnames_len] at hk
    simp [show k < vs.length by omega]
  | none =>
    cases h2 : ((fnames fs).drop (min fs.length vs.length)).findIdx? (eqT f) with
    | none => simp
    | some k =>
      have hk := (List.findIdx?_eq_some_iff_getElem.1 h2).1
      rw [List.length_drop, fnames_len] at hk
      have : ¬ k + min fs.length vs.length < vs.length := by omega
      simp [this]

end Go.Proofs.YtcjpaldijngnpaaGreatDoor
