/-
  Why a change of a field may not be (package evolve: refusalAtField), and what a field was called (Back, the program's and the document's): for every type of at most 5 fields and every change, in whatever world; nothing that lay is turned.
-/
import Derived.Test.YtcjpaldijngnpaaGreatRefuse
namespace Go.Proofs.YtcjpaldijngnpaaGreat
open Go.RowKit Go.Shelf

/-- Why a field may not be turned: 13, 10, 14; 0: it may. -/
def atE (fs : List Fd) (c : Ch) : Int :=
  match placeN (fnames fs) c.f.1 with
  | none => 13
  | some p => if c.k = 3 then (if nameB c.o.1 then (if hasB fs c.o.1 then 13 else 0) else 10) else if c.k = 4 then (if (fd fs p).2 = 3 then 0 else 14) else 0

set_option maxRecDepth 100000 in
set_option maxHeartbeats 4000000 in
theorem atField_c (nm : ByteArray) (a : Option Addr) (cap : Nat) (fs : List Fd) (c : Ch) (h5 : fs.length ≤ 5) (w : World) (hF : Flds w.heap.size w a fs) :
    Calls Tryz.prog 62 #[.agg #[.string nm, .slice a fs.length cap], c.v] w fun e w' => e = .returned (errE (atE fs c)) ∧ Below w.heap.size w w' := by
  obtain ⟨k, t, f, o, dk, dn, ds⟩ := c
  have b0 : Below w.heap.size w ((w.alloc (.cells #[.string nm, .slice a fs.length cap] 30)).alloc (.cells #[.int .i64 k, .string t.1, .string f.1, .string o.1, .int .i64 dk, .int .i64 dn, .string ds.1] 37)) := ((Below.refl _ _).alloc (Nat.le_refl _) _).alloc (by simp) _
  have F0 := hF.on b0
  obtain ⟨rv, hrv⟩ : ∃ rv, rv = errE (atE fs ⟨k, t, f, o, dk, dn, ds⟩) := ⟨_, rfl⟩
  rw [← hrv]
  have xt := (Box.new w 30 #[.string nm, .slice a fs.length cap]).alloc (.cells #[.int .i64 k, .string t.1, .string f.1, .string o.1, .int .i64 dk, .int .i64 dn, .string ds.1] 37)
  have xc := Box.new (w.alloc (.cells #[.string nm, .slice a fs.length cap] 30)) 37 #[.int .i64 k, .string t.1, .string f.1, .string o.1, .int .i64 dk, .int .i64 dn, .string ds.1]
  rw [World.size_alloc] at xc
  cases hp : placeN (fnames fs) f.1 with
  | none =>
    have e1 : placeI (fnames fs) f.1 = -1 := by simp [placeI, hp]
    have hr := hide (show rv = errV 13 by rw [hrv]; simp [atE, hp, errE])
    clear hrv hp
    go_enter Tryz.func62, Tryz.ntmps62
    go_wp2_with fail
    refine (field_c _ _ _ _ _ h5 _ F0).mono ?_
    rintro e w1 ⟨rfl, hb1⟩
    rw [e1]
    go_wp2_with fail
    go_ret
    exact ⟨by rw [unhide hr]; rfl, below2 hb1⟩
  | some p =>
    have e1 : placeI (fnames fs) f.1 = p := by simp [placeI, hp]
    have hpl : p < fs.length := by have := placeN_lt hp; rwa [fnames_len] at this
    have hr := hide (show rv = errE (if k = 3 then (if nameB o.1 then (if hasB fs o.1 then 13 else 0) else 10) else if k = 4 then (if (fd fs p).2 = 3 then 0 else 14) else 0) by rw [hrv]; simp only [atE, hp])
    clear hrv hp
    by_cases h3 : k = 3
    · subst h3
      cases hN : nameB o.1
      · replace hr := hide (show rv = errV 10 by rw [unhide hr, hN]; rfl)
        go_enter Tryz.func62, Tryz.ntmps62
        go_wp2_with fail
        refine (field_c _ _ _ _ _ h5 _ F0).mono ?_
        rintro e w1 ⟨rfl, hb1⟩
        rw [e1]
        obtain ⟨hc0, -, -, hc3, -, -, -⟩ := (xc.on hb1 xc.lt).seven
        go_wp2_with fail
        refine (name_c _ _ o.2).mono ?_
        rintro e w2 ⟨rfl, hb2⟩
        rw [hN]
        go_wp2_with fail
        go_ret
        exact ⟨by rw [unhide hr]; rfl, b0.trans ((hb1.trans (hb2.mono hb1.size)).mono b0.size)⟩
      · replace hr := hide (show rv = errE (if hasB fs o.1 then 13 else 0) by rw [unhide hr, hN]; rfl)
        cases hH : hasB fs o.1
        · replace hr := hide (show rv = .nilIface by rw [unhide hr, hH]; rfl)
          go_enter Tryz.func62, Tryz.ntmps62
          go_wp2_with fail
          refine (field_c _ _ _ _ _ h5 _ F0).mono ?_
          rintro e w1 ⟨rfl, hb1⟩
          rw [e1]
          obtain ⟨hc0, -, -, hc3, -, -, -⟩ := (xc.on hb1 xc.lt).seven
          go_wp2_with fail
          refine (name_c _ _ o.2).mono ?_
          rintro e w2 ⟨rfl, hb2⟩
          rw [hN]
          have b2 := hb1.trans (hb2.mono hb1.size)
          have xt2 := xt.on b2 xt.lt
          have F2 := F0.on b2
          obtain ⟨ht0, ht1⟩ := xt2.two
          clear hc0 hc3
          obtain ⟨hc0, -, -, hc3, -, -, -⟩ := (xc.on b2 xc.lt).seven
          go_wp2_with fail
          refine (has_c _ _ _ _ _ h5 _ F2).mono ?_
          rintro e w3 ⟨rfl, hb3⟩
          rw [hH]
          have b3 := b2.trans (hb3.mono b2.size)
          clear hc0 hc3 ht0 ht1
          obtain ⟨hc0, -, -, hc3, -, -, -⟩ := (xc.on b3 xc.lt).seven
          go_wp2_with fail
          go_ret
          exact ⟨by rw [unhide hr]; rfl, b0.trans (b3.mono b0.size)⟩
        · replace hr := hide (show rv = errV 13 by rw [unhide hr, hH]; rfl)
          go_enter Tryz.func62, Tryz.ntmps62
          go_wp2_with fail
          refine (field_c _ _ _ _ _ h5 _ F0).mono ?_
          rintro e w1 ⟨rfl, hb1⟩
          rw [e1]
          obtain ⟨hc0, -, -, hc3, -, -, -⟩ := (xc.on hb1 xc.lt).seven
          go_wp2_with fail
          refine (name_c _ _ o.2).mono ?_
          rintro e w2 ⟨rfl, hb2⟩
          rw [hN]
          have b2 := hb1.trans (hb2.mono hb1.size)
          have xt2 := xt.on b2 xt.lt
          have F2 := F0.on b2
          obtain ⟨ht0, ht1⟩ := xt2.two
          clear hc0 hc3
          obtain ⟨hc0, -, -, hc3, -, -, -⟩ := (xc.on b2 xc.lt).seven
          go_wp2_with fail
          refine (has_c _ _ _ _ _ h5 _ F2).mono ?_
          rintro e w3 ⟨rfl, hb3⟩
          rw [hH]
          have b3 := b2.trans (hb3.mono b2.size)
          clear hc0 hc3 ht0 ht1
          go_wp2_with fail
          go_ret
          exact ⟨by rw [unhide hr]; rfl, b0.trans (b3.mono b0.size)⟩
    · have h3' : (k == 3) = false := by simp [h3]
      replace hr := hide (show rv = errE (if k = 4 then (if (fd fs p).2 = 3 then 0 else 14) else 0) by rw [unhide hr, if_neg h3])
      by_cases h4 : k = 4
      · subst h4
        clear h3 h3'
        rcases F0 with rfl | ⟨b, off, rfl, hb, hcs⟩
        · simp at hpl
        have F0 := Flds.below (Below.refl _ _) (.inr ⟨b, off, rfl, hb, hcs⟩)
        by_cases hk : (fd fs p).2 = 3
        · have hk' : ((fd fs p).2 != 3) = false := by simp [hk]
          replace hr := hide (show rv = .nilIface by rw [unhide hr]; simp [hk, errE])
          clear hk
          go_enter Tryz.func62, Tryz.ntmps62
          go_wp2_with fail
          refine (field_c _ _ _ _ _ h5 _ F0).mono ?_
          rintro e w1 ⟨rfl, hb1⟩
          rw [e1]
          obtain ⟨hc0, -, -, -, -, -, -⟩ := (xc.on hb1 xc.lt).seven
          have ht1 := (xt.on hb1 xt.lt).two.2
          have hd := (hb1.cell (p := ⟨b, off + p * 2 + 1, none⟩) hb).trans (hcs p hpl).2
          go_wp2_with fail
          go_ret
          exact ⟨by rw [unhide hr]; rfl, below2 hb1⟩
        · have hk' : ((fd fs p).2 != 3) = true := by simp [hk]
          replace hr := hide (show rv = errV 14 by rw [unhide hr]; simp [hk, errE])
          clear hk
          go_enter Tryz.func62, Tryz.ntmps62
          go_wp2_with fail
          refine (field_c _ _ _ _ _ h5 _ F0).mono ?_
          rintro e w1 ⟨rfl, hb1⟩
          rw [e1]
          obtain ⟨hc0, -, -, -, -, -, -⟩ := (xc.on hb1 xc.lt).seven
          have ht1 := (xt.on hb1 xt.lt).two.2
          have hd := (hb1.cell (p := ⟨b, off + p * 2 + 1, none⟩) hb).trans (hcs p hpl).2
          go_wp2_with fail
          go_ret
          exact ⟨by rw [unhide hr]; rfl, below2 hb1⟩
      · have h4' : (k == 4) = false := by simp [h4]
        replace hr := hide (show rv = .nilIface by rw [unhide hr, if_neg h4]; rfl)
        clear h3 h4
        go_enter Tryz.func62, Tryz.ntmps62
        go_wp2_with fail
        refine (field_c _ _ _ _ _ h5 _ F0).mono ?_
        rintro e w1 ⟨rfl, hb1⟩
        rw [e1]
        obtain ⟨hc0, -, -, -, -, -, -⟩ := (xc.on hb1 xc.lt).seven
        go_wp2_with fail
        go_ret
        exact ⟨by rw [unhide hr]; rfl, below2 hb1⟩

/-- What a field was called: none: it wasn't there. -/
def backN (c : Ch) (s : Txt) : Option Txt :=
  if c.k = 1 then (if eqT c.f.1 s then none else some s) else if c.k = 3 then (if eqT c.o.1 s then some c.f else some s) else some s
def backV : Option Txt → Value
  | none => .tuple #[.string ⟨#[]⟩, .bool false]
  | some s => .tuple #[.string s.1, .bool true]

set_option maxHeartbeats 1000000 in
theorem back_c (c : Ch) (s : Txt) (w : World) :
    Calls Tryz.prog 23 #[c.v, .string s.1] w fun e w' => e = .returned (backV (backN c s)) ∧ Below w.heap.size w w' := by
  obtain ⟨k, t, f, o, dk, dn, ds⟩ := c
  obtain ⟨rv, hrv⟩ : ∃ rv, rv = backV (backN ⟨k, t, f, o, dk, dn, ds⟩ s) := ⟨_, rfl⟩
  rw [← hrv]
  by_cases h1 : k = 1
  · subst h1
    cases hq : (s.1.toList == f.1.toList)
    · have hr := hide (show rv = .tuple #[.string s.1, .bool true] by rw [hrv]; simp only [backN, eqT, hq]; rfl)
      clear hrv
      go_enter Tryz.func23, Tryz.ntmps23
      go_wp2_with fail
      go_ret2
      exact ⟨by rw [unhide hr]; rfl, below1 (Below.refl _ _)⟩
    · have hr := hide (show rv = .tuple #[.string ⟨#[]⟩, .bool false] by rw [hrv]; simp only [backN, eqT, hq]; rfl)
      clear hrv
      go_enter Tryz.func23, Tryz.ntmps23
      go_wp2_with fail
      go_ret2
      exact ⟨by rw [unhide hr]; rfl, below1 (Below.refl _ _)⟩
  have h1' : (k == 1) = false := by simp [h1]
  by_cases h3 : k = 3
  · subst h3
    clear h1 h1'
    cases hq : (s.1.toList == o.1.toList)
    · have hr := hide (show rv = .tuple #[.string s.1, .bool true] by rw [hrv]; simp only [backN, eqT, hq]; rfl)
      clear hrv
      go_enter Tryz.func23, Tryz.ntmps23
      go_wp2_with fail
      go_ret2
      exact ⟨by rw [unhide hr]; rfl, below1 (Below.refl _ _)⟩
    · have hr := hide (show rv = .tuple #[.string f.1, .bool true] by rw [hrv]; simp only [backN, eqT, hq]; rfl)
      clear hrv
      go_enter Tryz.func23, Tryz.ntmps23
      go_wp2_with fail
      go_ret2
      exact ⟨by rw [unhide hr]; rfl, below1 (Below.refl _ _)⟩
  have h3' : (k == 3) = false := by simp [h3]
  have hr := hide (show rv = .tuple #[.string s.1, .bool true] by rw [hrv]; simp only [backN, if_neg h1, if_neg h3]; rfl)
  clear hrv h1 h3
  go_enter Tryz.func23, Tryz.ntmps23
  go_wp2_with fail
  go_ret2
  exact ⟨by rw [unhide hr]; rfl, below1 (Below.refl _ _)⟩



end Go.Proofs.YtcjpaldijngnpaaGreat
