/-
  Why a field may not be added (package evolve: refusalOfAdd): for every type of at most 5 fields and every change, in whatever world; nothing that lay is turned.
  Why a change of a field may not be (package evolve: refusalAtField), and what a field was called (Back, the program's and the document's): for every type of at most 5 fields and every change, in whatever world; nothing that lay is turned.
  Why a change may not be (package evolve: refusal): for every schema of at most 5 types of at most 5 fields and every change, in whatever world; nothing that lay is turned.
-/
import Derived.Test.YtcjpaldijngnpaaGreatDoorRefuse
namespace Go.Proofs.YtcjpaldijngnpaaGreatDoor
open Go.RowKit Go.Shelf

/-- Why a field may not be added: 10, 13, 12; 0: it may. -/
def addE (fs : List Fd) (c : Ch) : Int :=
  if nameB c.f.1 && isB c.dk c.dn c.ds.1 then (if hasB fs c.f.1 then 13 else if 5 ≤ fs.length then 12 else 0) else 10

set_option maxRecDepth 100000 in
set_option maxHeartbeats 4000000 in
theorem ofAdd_c (nm : ByteArray) (a : Option Addr) (cap : Nat) (fs : List Fd) (c : Ch) (h5 : fs.length ≤ 5) (w : World) (hF : Flds w.heap.size w a fs) :
    Calls Tryz.prog 90 #[.agg #[.string nm, .slice a fs.length cap], c.v] w fun e w' => e = .returned (errE (addE fs c)) ∧ Below w.heap.size w w' := by
  obtain ⟨k, t, f, o, dk, dn, ds⟩ := c
  have b0 : Below w.heap.size w ((w.alloc (.cells #[.string nm, .slice a fs.length cap] 69)).alloc (.cells #[.int .i64 k, .string t.1, .string f.1, .string o.1, .int .i64 dk, .int .i64 dn, .string ds.1] 42)) := ((Below.refl _ _).alloc (Nat.le_refl _) _).alloc (by simp) _
  have F0 := hF.on b0
  obtain ⟨rv, hrv⟩ : ∃ rv, rv = errE (addE fs ⟨k, t, f, o, dk, dn, ds⟩) := ⟨_, rfl⟩
  rw [← hrv]
  have xt := (Box.new w 69 #[.string nm, .slice a fs.length cap]).alloc (.cells #[.int .i64 k, .string t.1, .string f.1, .string o.1, .int .i64 dk, .int .i64 dn, .string ds.1] 42)
  have xc := Box.new (w.alloc (.cells #[.string nm, .slice a fs.length cap] 69)) 42 #[.int .i64 k, .string t.1, .string f.1, .string o.1, .int .i64 dk, .int .i64 dn, .string ds.1]
  rw [World.size_alloc] at xc
  cases hN : nameB f.1
  · have hr := hide (show rv = errV 10 by rw [hrv]; simp [addE, hN, errE])
    clear hrv
    go_enter Tryz.func90, Tryz.ntmps90
    go_wp2_with fail
    refine (name_c _ _ f.2).mono ?_
    rintro e w1 ⟨rfl, hb1⟩
    rw [hN]
    go_wp2_with fail
    go_ret
    exact ⟨by rw [unhide hr]; rfl, below2 hb1⟩
  cases hI : isB dk dn ds.1
  · have hr := hide (show rv = errV 10 by rw [hrv]; simp [addE, hN, hI, errE])
    clear hrv
    go_enter Tryz.func90, Tryz.ntmps90
    go_wp2_with fail
    refine (name_c _ _ f.2).mono ?_
    rintro e w1 ⟨rfl, hb1⟩
    rw [hN]
    obtain ⟨-, -, hc2, -, hc4, hc5, hc6⟩ := (xc.on hb1 xc.lt).seven
    go_wp2_with fail
    refine (valIs_c _ _ _ _ ds.2).mono ?_
    rintro e w2 ⟨rfl, hb2⟩
    rw [hI]
    go_wp2_with fail
    go_ret
    exact ⟨by rw [unhide hr]; rfl, b0.trans ((hb1.trans (hb2.mono hb1.size)).mono b0.size)⟩
  have hr := hide (show rv = errE (if hasB fs f.1 then 13 else if 5 ≤ fs.length then 12 else 0) by rw [hrv]; simp [addE, hN, hI])
  clear hrv
  cases hH : hasB fs f.1
  · replace hr := hide (show rv = errE (if 5 ≤ fs.length then 12 else 0) by rw [unhide hr, hH]; rfl)
    by_cases hl : 5 ≤ fs.length
    · replace hr := hide (show rv = errV 12 by rw [unhide hr]; simp [hl, errE])
      have hl' : (5 : Int) ≤ fs.length := by omega
      clear hl
      go_enter Tryz.func90, Tryz.ntmps90
      go_wp2_with fail
      refine (name_c _ _ f.2).mono ?_
      rintro e w1 ⟨rfl, hb1⟩
      rw [hN]
      obtain ⟨-, -, hc2, -, hc4, hc5, hc6⟩ := (xc.on hb1 xc.lt).seven
      go_wp2_with fail
      refine (valIs_c _ _ _ _ ds.2).mono ?_
      rintro e w2 ⟨rfl, hb2⟩
      rw [hI]
      have b2 := hb1.trans (hb2.mono hb1.size)
      have xt2 := xt.on b2 xt.lt
      have F2 := F0.on b2
      obtain ⟨ht0, ht1⟩ := xt2.two
      clear hc2 hc4 hc5 hc6
      obtain ⟨-, -, hc2, -, -, -, -⟩ := (xc.on b2 xc.lt).seven
      go_wp2_with fail
      refine (has_c _ _ _ _ _ h5 _ F2).mono ?_
      rintro e w3 ⟨rfl, hb3⟩
      rw [hH]
      have ht3 := (xt2.on hb3 xt2.lt).two.2
      clear ht0 ht1 hc2
      go_wp2_with fail
      go_ret
      exact ⟨by rw [unhide hr]; rfl, b0.trans ((b2.trans (hb3.mono b2.size)).mono b0.size)⟩
    · replace hr := hide (show rv = .nilIface by rw [unhide hr]; simp [hl, errE])
      have hl' : ¬ (5 : Int) ≤ fs.length := by omega
      clear hl
      go_enter Tryz.func90, Tryz.ntmps90
      go_wp2_with fail
      refine (name_c _ _ f.2).mono ?_
      rintro e w1 ⟨rfl, hb1⟩
      rw [hN]
      obtain ⟨-, -, hc2, -, hc4, hc5, hc6⟩ := (xc.on hb1 xc.lt).seven
      go_wp2_with fail
      refine (valIs_c _ _ _ _ ds.2).mono ?_
      rintro e w2 ⟨rfl, hb2⟩
      rw [hI]
      have b2 := hb1.trans (hb2.mono hb1.size)
      have xt2 := xt.on b2 xt.lt
      have F2 := F0.on b2
      obtain ⟨ht0, ht1⟩ := xt2.two
      clear hc2 hc4 hc5 hc6
      obtain ⟨-, -, hc2, -, -, -, -⟩ := (xc.on b2 xc.lt).seven
      go_wp2_with fail
      refine (has_c _ _ _ _ _ h5 _ F2).mono ?_
      rintro e w3 ⟨rfl, hb3⟩
      rw [hH]
      have ht3 := (xt2.on hb3 xt2.lt).two.2
      clear ht0 ht1 hc2
      go_wp2_with fail
      go_ret
      exact ⟨by rw [unhide hr]; rfl, b0.trans ((b2.trans (hb3.mono b2.size)).mono b0.size)⟩
  · replace hr := hide (show rv = errV 13 by rw [unhide hr, hH]; rfl)
    go_enter Tryz.func90, Tryz.ntmps90
    go_wp2_with fail
    refine (name_c _ _ f.2).mono ?_
    rintro e w1 ⟨rfl, hb1⟩
    rw [hN]
    obtain ⟨-, -, hc2, -, hc4, hc5, hc6⟩ := (xc.on hb1 xc.lt).seven
    go_wp2_with fail
    refine (valIs_c _ _ _ _ ds.2).mono ?_
    rintro e w2 ⟨rfl, hb2⟩
    rw [hI]
    have b2 := hb1.trans (hb2.mono hb1.size)
    have xt2 := xt.on b2 xt.lt
    have F2 := F0.on b2
    obtain ⟨ht0, ht1⟩ := xt2.two
    clear hc2 hc4 hc5 hc6
    obtain ⟨-, -, hc2, -, -, -, -⟩ := (xc.on b2 xc.lt).seven
    go_wp2_with fail
    refine (has_c _ _ _ _ _ h5 _ F2).mono ?_
    rintro e w3 ⟨rfl, hb3⟩
    rw [hH]
    clear ht0 ht1 hc2
    go_wp2_with fail
    go_ret
    exact ⟨by rw [unhide hr]; rfl, b0.trans ((b2.trans (hb3.mono b2.size)).mono b0.size)⟩

end Go.Proofs.YtcjpaldijngnpaaGreatDoor

namespace Go.Proofs.YtcjpaldijngnpaaGreatDoor
open Go.RowKit Go.Shelf

/-- Why a field may not be turned: 13, 10, 14; 0: it may. -/
def atE (fs : List Fd) (c : Ch) : Int :=
  match placeN (fnames fs) c.f.1 with
  | none => 13
  | some p => if c.k = 3 then (if nameB c.o.1 then (if hasB fs c.o.1 then 13 else 0) else 10) else if c.k = 4 then (if (fd fs p).2 = 3 then 0 else 14) else 0

set_option maxRecDepth 100000 in
set_option maxHeartbeats 4000000 in
theorem atField_c (nm : ByteArray) (a : Option Addr) (cap : Nat) (fs : List Fd) (c : Ch) (h5 : fs.length ≤ 5) (w : World) (hF : Flds w.heap.size w a fs) :
    Calls Tryz.prog 91 #[.agg #[.string nm, .slice a fs.length cap], c.v] w fun e w' => e = .returned (errE (atE fs c)) ∧ Below w.heap.size w w' := by
  obtain ⟨k, t, f, o, dk, dn, ds⟩ := c
  have b0 : Below w.heap.size w ((w.alloc (.cells #[.string nm, .slice a fs.length cap] 69)).alloc (.cells #[.int .i64 k, .string t.1, .string f.1, .string o.1, .int .i64 dk, .int .i64 dn, .string ds.1] 42)) := ((Below.refl _ _).alloc (Nat.le_refl _) _).alloc (by simp) _
  have F0 := hF.on b0
  obtain ⟨rv, hrv⟩ : ∃ rv, rv = errE (atE fs ⟨k, t, f, o, dk, dn, ds⟩) := ⟨_, rfl⟩
  rw [← hrv]
  have xt := (Box.new w 69 #[.string nm, .slice a fs.length cap]).alloc (.cells #[.int .i64 k, .string t.1, .string f.1, .string o.1, .int .i64 dk, .int .i64 dn, .string ds.1] 42)
  have xc := Box.new (w.alloc (.cells #[.string nm, .slice a fs.length cap] 69)) 42 #[.int .i64 k, .string t.1, .string f.1, .string o.1, .int .i64 dk, .int .i64 dn, .string ds.1]
  rw [World.size_alloc] at xc
  cases hp : placeN (fnames fs) f.1 with
  | none =>
    have e1 : placeI (fnames fs) f.1 = -1 := by simp [placeI, hp]
    have hr := hide (show rv = errV 13 by rw [hrv]; simp [atE, hp, errE])
    clear hrv hp
    go_enter Tryz.func91, Tryz.ntmps91
    go_wp2_with fail
    refine (field_c _ _ _ _ _ h5 _ F0).mono ?_
    rintro e w1 ⟨rfl, hb1⟩
    rw [e1]
    go_wp2_with fail
    go_ret
    exact ⟨by rw [unhide hr]; rfl, below2 hb1⟩
  | some p =>
    have e1 : placeI (fnames fs) f.1 = p := by simp [placeI, hp]
    have hpl : p < fs.length := by have := placeN_lt hp; rwa [fnames_len] at this
    have hr := hide (show rv = errE (if k = 3 then (if nameB o.1 then (if hasB fs o.1 then 13 else 0) else 10) else if k = 4 then (if (fd fs p).2 = 3 then 0 else 14) else 0) by rw [hrv]; simp only [atE, hp])
    clear hrv hp
    by_cases h3 : k = 3
    · subst h3
      cases hN : nameB o.1
      · replace hr := hide (show rv = errV 10 by rw [unhide hr, hN]; rfl)
        go_enter Tryz.func91, Tryz.ntmps91
        go_wp2_with fail
        refine (field_c _ _ _ _ _ h5 _ F0).mono ?_
        rintro e w1 ⟨rfl, hb1⟩
        rw [e1]
        obtain ⟨hc0, -, -, hc3, -, -, -⟩ := (xc.on hb1 xc.lt).seven
        go_wp2_with fail
        refine (name_c _ _ o.2).mono ?_
        rintro e w2 ⟨rfl, hb2⟩
        rw [hN]
        go_wp2_with fail
        go_ret
        exact ⟨by rw [unhide hr]; rfl, b0.trans ((hb1.trans (hb2.mono hb1.size)).mono b0.size)⟩
      · replace hr := hide (show rv = errE (if hasB fs o.1 then 13 else 0) by rw [unhide hr, hN]; rfl)
        cases hH : hasB fs o.1
        · replace hr := hide (show rv = .nilIface by rw [unhide hr, hH]; rfl)
          go_enter Tryz.func91, Tryz.ntmps91
          go_wp2_with fail
          refine (field_c _ _ _ _ _ h5 _ F0).mono ?_
          rintro e w1 ⟨rfl, hb1⟩
          rw [e1]
          obtain ⟨hc0, -, -, hc3, -, -, -⟩ := (xc.on hb1 xc.lt).seven
          go_wp2_with fail
          refine (name_c _ _ o.2).mono ?_
          rintro e w2 ⟨rfl, hb2⟩
          rw [hN]
          have b2 := hb1.trans (hb2.mono hb1.size)
          have xt2 := xt.on b2 xt.lt
          have F2 := F0.on b2
          obtain ⟨ht0, ht1⟩ := xt2.two
          clear hc0 hc3
          obtain ⟨hc0, -, -, hc3, -, -, -⟩ := (xc.on b2 xc.lt).seven
          go_wp2_with fail
          refine (has_c _ _ _ _ _ h5 _ F2).mono ?_
          rintro e w3 ⟨rfl, hb3⟩
          rw [hH]
          have b3 := b2.trans (hb3.mono b2.size)
          clear hc0 hc3 ht0 ht1
          obtain ⟨hc0, -, -, hc3, -, -, -⟩ := (xc.on b3 xc.lt).seven
          go_wp2_with fail
          go_ret
          exact ⟨by rw [unhide hr]; rfl, b0.trans (b3.mono b0.size)⟩
        · replace hr := hide (show rv = errV 13 by rw [unhide hr, hH]; rfl)
          go_enter Tryz.func91, Tryz.ntmps91
          go_wp2_with fail
          refine (field_c _ _ _ _ _ h5 _ F0).mono ?_
          rintro e w1 ⟨rfl, hb1⟩
          rw [e1]
          obtain ⟨hc0, -, -, hc3, -, -, -⟩ := (xc.on hb1 xc.lt).seven
          go_wp2_with fail
          refine (name_c _ _ o.2).mono ?_
          rintro e w2 ⟨rfl, hb2⟩
          rw [hN]
          have b2 := hb1.trans (hb2.mono hb1.size)
          have xt2 := xt.on b2 xt.lt
          have F2 := F0.on b2
          obtain ⟨ht0, ht1⟩ := xt2.two
          clear hc0 hc3
          obtain ⟨hc0, -, -, hc3, -, -, -⟩ := (xc.on b2 xc.lt).seven
          go_wp2_with fail
          refine (has_c _ _ _ _ _ h5 _ F2).mono ?_
          rintro e w3 ⟨rfl, hb3⟩
          rw [hH]
          have b3 := b2.trans (hb3.mono b2.size)
          clear hc0 hc3 ht0 ht1
          go_wp2_with fail
          go_ret
          exact ⟨by rw [unhide hr]; rfl, b0.trans (b3.mono b0.size)⟩
    · have h3' : (k == 3) = false := by simp [h3]
      replace hr := hide (show rv = errE (if k = 4 then (if (fd fs p).2 = 3 then 0 else 14) else 0) by rw [unhide hr, if_neg h3])
      by_cases h4 : k = 4
      · subst h4
        clear h3 h3'
        rcases F0 with rfl | ⟨b, off, rfl, hb, hcs⟩
        · simp at hpl
        have F0 := Flds.below (Below.refl _ _) (.inr ⟨b, off, rfl, hb, hcs⟩)
        by_cases hk : (fd fs p).2 = 3
        · have hk' : ((fd fs p).2 != 3) = false := by simp [hk]
          replace hr := hide (show rv = .nilIface by rw [unhide hr]; simp [hk, errE])
          clear hk
          go_enter Tryz.func91, Tryz.ntmps91
          go_wp2_with fail
          refine (field_c _ _ _ _ _ h5 _ F0).mono ?_
          rintro e w1 ⟨rfl, hb1⟩
          rw [e1]
          obtain ⟨hc0, -, -, -, -, -, -⟩ := (xc.on hb1 xc.lt).seven
          have ht1 := (xt.on hb1 xt.lt).two.2
          have hd := (hb1.cell (p := ⟨b, off + p * 2 + 1, none⟩) hb).trans (hcs p hpl).2
          go_wp2_with fail
          go_ret
          exact ⟨by rw [unhide hr]; rfl, below2 hb1⟩
        · have hk' : ((fd fs p).2 != 3) = true := by simp [hk]
          replace hr := hide (show rv = errV 14 by rw [unhide hr]; simp [hk, errE])
          clear hk
          go_enter Tryz.func91, Tryz.ntmps91
          go_wp2_with fail
          refine (field_c _ _ _ _ _ h5 _ F0).mono ?_
          rintro e w1 ⟨rfl, hb1⟩
          rw [e1]
          obtain ⟨hc0, -, -, -, -, -, -⟩ := (xc.on hb1 xc.lt).seven
          have ht1 := (xt.on hb1 xt.lt).two.2
          have hd := (hb1.cell (p := ⟨b, off + p * 2 + 1, none⟩) hb).trans (hcs p hpl).2
          go_wp2_with fail
          go_ret
          exact ⟨by rw [unhide hr]; rfl, below2 hb1⟩
      · have h4' : (k == 4) = false := by simp [h4]
        replace hr := hide (show rv = .nilIface by rw [unhide hr, if_neg h4]; rfl)
        clear h3 h4
        go_enter Tryz.func91, Tryz.ntmps91
        go_wp2_with fail
        refine (field_c _ _ _ _ _ h5 _ F0).mono ?_
        rintro e w1 ⟨rfl, hb1⟩
        rw [e1]
        obtain ⟨hc0, -, -, -, -, -, -⟩ := (xc.on hb1 xc.lt).seven
        go_wp2_with fail
        go_ret
        exact ⟨by rw [unhide hr]; rfl, below2 hb1⟩

/-- What a field was called: none: it wasn't there. -/
def backN (c : Ch) (s : Txt) : Option Txt :=
  if c.k = 1 then (if eqT c.f.1 s then none else some s) else if c.k = 3 then (if eqT c.o.1 s then some c.f else some s) else some s
def backV : Option Txt → Value
  | none => .tuple #[.string ⟨#[]⟩, .bool false]
  | some s => .tuple #[.string s.1, .bool true]

set_option maxHeartbeats 1000000 in
theorem back_c (c : Ch) (s : Txt) (w : World) :
    Calls Tryz.prog 43 #[c.v, .string s.1] w fun e w' => e = .returned (backV (backN c s)) ∧ Below w.heap.size w w' := by
  obtain ⟨k, t, f, o, dk, dn, ds⟩ := c
  obtain ⟨rv, hrv⟩ : ∃ rv, rv = backV (backN ⟨k, t, f, o, dk, dn, ds⟩ s) := ⟨_, rfl⟩
  rw [← hrv]
  by_cases h1 : k = 1
  · subst h1
    cases hq : (s.1.toList == f.1.toList)
    · have hr := hide (show rv = .tuple #[.string s.1, .bool true] by rw [hrv]; simp only [backN, eqT, hq]; rfl)
      clear hrv
      go_enter Tryz.func43, Tryz.ntmps43
      go_wp2_with fail
      go_ret2
      exact ⟨by rw [unhide hr]; rfl, below1 (Below.refl _ _)⟩
    · have hr := hide (show rv = .tuple #[.string ⟨#[]⟩, .bool false] by rw [hrv]; simp only [backN, eqT, hq]; rfl)
      clear hrv
      go_enter Tryz.func43, Tryz.ntmps43
      go_wp2_with fail
      go_ret2
      exact ⟨by rw [unhide hr]; rfl, below1 (Below.refl _ _)⟩
  have h1' : (k == 1) = false := by simp [h1]
  by_cases h3 : k = 3
  · subst h3
    clear h1 h1'
    cases hq : (s.1.toList == o.1.toList)
    · have hr := hide (show rv = .tuple #[.string s.1, .bool true] by rw [hrv]; simp only [backN, eqT, hq]; rfl)
      clear hrv
      go_enter Tryz.func43, Tryz.ntmps43
      go_wp2_with fail
      go_ret2
      exact ⟨by rw [unhide hr]; rfl, below1 (Below.refl _ _)⟩
    · have hr := hide (show rv = .tuple #[.string f.1, .bool true] by rw [hrv]; simp only [backN, eqT, hq]; rfl)
      clear hrv
      go_enter Tryz.func43, Tryz.ntmps43
      go_wp2_with fail
      go_ret2
      exact ⟨by rw [unhide hr]; rfl, below1 (Below.refl _ _)⟩
  have h3' : (k == 3) = false := by simp [h3]
  have hr := hide (show rv = .tuple #[.string s.1, .bool true] by rw [hrv]; simp only [backN, if_neg h1, if_neg h3]; rfl)
  clear hrv h1 h3
  go_enter Tryz.func43, Tryz.ntmps43
  go_wp2_with fail
  go_ret2
  exact ⟨by rw [unhide hr]; rfl, below1 (Below.refl _ _)⟩

set_option maxHeartbeats 1000000 in
theorem refBack_c (c : Ch) (s : Txt) (w : World) :
    Calls Tryz.prog 45 #[c.v, .string s.1] w fun e w' => e = .returned (backV (backN c s)) ∧ Below w.heap.size w w' := by
  obtain ⟨k, t, f, o, dk, dn, ds⟩ := c
  obtain ⟨rv, hrv⟩ : ∃ rv, rv = backV (backN ⟨k, t, f, o, dk, dn, ds⟩ s) := ⟨_, rfl⟩
  rw [← hrv]
  by_cases h1 : k = 1
  · subst h1
    cases hq : (s.1.toList == f.1.toList)
    · have hr := hide (show rv = .tuple #[.string s.1, .bool true] by rw [hrv]; simp only [backN, eqT, hq]; rfl)
      clear hrv
      go_enter Tryz.func45, Tryz.ntmps45
      go_wp2_with fail
      go_ret2
      exact ⟨by rw [unhide hr]; rfl, below1 (Below.refl _ _)⟩
    · have hr := hide (show rv = .tuple #[.string ⟨#[]⟩, .bool false] by rw [hrv]; simp only [backN, eqT, hq]; rfl)
      clear hrv
      go_enter Tryz.func45, Tryz.ntmps45
      go_wp2_with fail
      go_ret2
      exact ⟨by rw [unhide hr]; rfl, below1 (Below.refl _ _)⟩
  have h1' : (k == 1) = false := by simp [h1]
  by_cases h3 : k = 3
  · subst h3
    clear h1 h1'
    cases hq : (s.1.toList == o.1.toList)
    · have hr := hide (show rv = .tuple #[.string s.1, .bool true] by rw [hrv]; simp only [backN, eqT, hq]; rfl)
      clear hrv
      go_enter Tryz.func45, Tryz.ntmps45
      go_wp2_with fail
      go_ret2
      exact ⟨by rw [unhide hr]; rfl, below1 (Below.refl _ _)⟩
    · have hr := hide (show rv = .tuple #[.string f.1, .bool true] by rw [hrv]; simp only [backN, eqT, hq]; rfl)
      clear hrv
      go_enter Tryz.func45, Tryz.ntmps45
      go_wp2_with fail
      go_ret2
      exact ⟨by rw [unhide hr]; rfl, below1 (Below.refl _ _)⟩
  have h3' : (k == 3) = false := by simp [h3]
  have hr := hide (show rv = .tuple #[.string s.1, .bool true] by rw [hrv]; simp only [backN, if_neg h1, if_neg h3]; rfl)
  clear hrv h1 h3
  go_enter Tryz.func45, Tryz.ntmps45
  go_wp2_with fail
  go_ret2
  exact ⟨by rw [unhide hr]; rfl, below1 (Below.refl _ _)⟩

end Go.Proofs.YtcjpaldijngnpaaGreatDoor

namespace Go.Proofs.YtcjpaldijngnpaaGreatDoor
open Go.RowKit Go.Shelf

/-- Why a change may not be: 10, 12, 13, 14; 0: it may. -/
def refE (ts : List Ty) (c : Ch) : Int :=
  if formedB c then
    match placeN (tnames ts) c.t.1 with
    | none => if c.k = 5 then (if 5 ≤ ts.length then 12 else 0) else 13
    | some j => if c.k = 5 then 13 else if c.k = 1 then addE (ty ts j).2 c else atE (ty ts j).2 c
  else 10

set_option maxRecDepth 100000 in
set_option maxHeartbeats 4000000 in
theorem refusal_c (a : Option Addr) (cap : Nat) (ts : List Ty) (c : Ch) (h5 : ts.length ≤ 5) (hk5 : ∀ k, (ty ts k).2.length ≤ 5) (w : World) (hT : Typs w.heap.size w a ts) :
    Calls Tryz.prog 63 #[.agg #[.slice a ts.length cap], c.v] w fun e w' => e = .returned (errE (refE ts c)) ∧ Below w.heap.size w w' := by
  have cF : ∀ W, Calls Tryz.prog 88 #[c.v] W fun e w' => e = .returned (.bool (formedB c)) ∧ Below W.heap.size W w' := fun W => formed_c c W
  obtain ⟨rv, hrv⟩ : ∃ rv, rv = errE (refE ts c) := ⟨_, rfl⟩
  rw [← hrv]
  have cA : ∀ (fs : List Fd) (nm : ByteArray) (a : Option Addr) (cap : Nat) (W : World), fs.length ≤ 5 → Flds W.heap.size W a fs → Calls Tryz.prog 90 #[.agg #[.string nm, .slice a fs.length cap], c.v] W fun e w' => e = .returned (errE (addE fs c)) ∧ Below W.heap.size W w' := fun fs nm a cap W h5 hF => ofAdd_c nm a cap fs c h5 W hF
  have cB : ∀ (fs : List Fd) (nm : ByteArray) (a : Option Addr) (cap : Nat) (W : World), fs.length ≤ 5 → Flds W.heap.size W a fs → Calls Tryz.prog 91 #[.agg #[.string nm, .slice a fs.length cap], c.v] W fun e w' => e = .returned (errE (atE fs c)) ∧ Below W.heap.size W w' := fun fs nm a cap W h5 hF => atField_c nm a cap fs c h5 W hF
  have hk : c.k = 5 ∨ (c.k ≠ 5 ∧ c.k = 1) ∨ (c.k ≠ 5 ∧ c.k ≠ 1) := by omega
  obtain ⟨k, t, f, o, dk, dn, ds⟩ := c
  obtain ⟨FB, hFB⟩ : ∃ FB, FB = formedB ⟨k, t, f, o, dk, dn, ds⟩ := ⟨_, rfl⟩
  rw [← hFB] at cF
  have b0 : Below w.heap.size w ((w.alloc (.cells #[.slice a ts.length cap] 24)).alloc (.cells #[.int .i64 k, .string t.1, .string f.1, .string o.1, .int .i64 dk, .int .i64 dn, .string ds.1] 42)) := ((Below.refl _ _).alloc (Nat.le_refl _) _).alloc (by simp) _
  have xs := (Box.new w 24 #[.slice a ts.length cap]).alloc (.cells #[.int .i64 k, .string t.1, .string f.1, .string o.1, .int .i64 dk, .int .i64 dn, .string ds.1] 42)
  have xc := Box.new (w.alloc (.cells #[.slice a ts.length cap] 24)) 42 #[.int .i64 k, .string t.1, .string f.1, .string o.1, .int .i64 dk, .int .i64 dn, .string ds.1]
  rw [World.size_alloc] at xc
  have T0 := hT.on b0
  replace cA := hide cA
  replace cB := hide cB
  simp only at hk
  cases FB with
  | false =>
    have hr := hide (show rv = errV 10 by rw [hrv]; simp [refE, ← hFB, errE])
    clear hrv hFB hk
    go_enter Tryz.func63, Tryz.ntmps63
    go_wp2_with fail
    refine (cF _).mono ?_
    rintro e w1 ⟨rfl, hb1⟩
    go_wp2_with fail
    go_ret
    exact ⟨by rw [unhide hr]; rfl, below2 hb1⟩
  | true =>
    cases hp : placeN (tnames ts) t.1 with
    | none =>
      have hr := hide (show rv = errE (if k = 5 then (if 5 ≤ ts.length then 12 else 0) else 13) by rw [hrv]; simp only [refE, ← hFB, hp]; rfl)
      clear hrv hFB
      by_cases hk5 : k = 5
      · subst hk5
        replace hr := hide (show rv = errE (if 5 ≤ ts.length then 12 else 0) by rw [unhide hr]; rfl)
        clear hk
        go_enter Tryz.func63, Tryz.ntmps63
        go_wp2_with fail
        refine (cF _).mono ?_
        rintro e w1 ⟨rfl, hb1⟩
        have hs := (xs.on hb1 xs.lt).one.1
        have hc1 := (xc.on hb1 xc.lt).seven.2.1
        go_wp2_with fail
        refine (find_none a cap ts t.1 h5 _ (T0.on hb1) hp).mono ?_
        rintro e w2 ⟨rfl, hb2⟩
        have b2 := hb1.trans (hb2.mono hb1.size)
        have xs2 := (xs.on b2 xs.lt).alloc (.cells #[.string ⟨#[]⟩, .slice none 0 0] 69)
        have xc2 := (xc.on b2 xc.lt).alloc (.cells #[.string ⟨#[]⟩, .slice none 0 0] 69)
        have b3 : Below _ _ (w2.alloc (.cells #[.string ⟨#[]⟩, .slice none 0 0] 69)) := b2.alloc b2.size _
        clear hs hc1
        have hs := xs2.one.1
        obtain ⟨hc0, hc1, -, -, -, -, -⟩ := xc2.seven
        go_wp2_with fail
        refine (ofType_c _ _ _ _).mono ?_
        rintro e w3 ⟨rfl, hb3⟩
        clear hs hc0 hc1
        rw [← unhide hr]
        go_wp2_with fail
        go_ret
        exact ⟨rfl, b0.trans ((b3.trans (hb3.mono b3.size)).mono b0.size)⟩
      · have hk' : (k == 5) = false := by simp [hk5]
        replace hr := hide (show rv = errV 13 by rw [unhide hr, if_neg hk5]; rfl)
        clear hk hk5
        go_enter Tryz.func63, Tryz.ntmps63
        go_wp2_with fail
        refine (cF _).mono ?_
        rintro e w1 ⟨rfl, hb1⟩
        have hs := (xs.on hb1 xs.lt).one.1
        have hc1 := (xc.on hb1 xc.lt).seven.2.1
        go_wp2_with fail
        refine (find_none a cap ts t.1 h5 _ (T0.on hb1) hp).mono ?_
        rintro e w2 ⟨rfl, hb2⟩
        have b2 := hb1.trans (hb2.mono hb1.size)
        have xc2 := (xc.on b2 xc.lt).alloc (.cells #[.string ⟨#[]⟩, .slice none 0 0] 69)
        have b3 : Below _ _ (w2.alloc (.cells #[.string ⟨#[]⟩, .slice none 0 0] 69)) := b2.alloc b2.size _
        clear hs hc1
        obtain ⟨hc0, hc1, -, -, -, -, -⟩ := xc2.seven
        go_wp2_with fail
        go_ret
        exact ⟨by rw [unhide hr]; rfl, b0.trans (b3.mono b0.size)⟩
    | some j =>
      have hr := hide (show rv = errE (if k = 5 then 13 else if k = 1 then addE (ty ts j).2 ⟨k, t, f, o, dk, dn, ds⟩ else atE (ty ts j).2 ⟨k, t, f, o, dk, dn, ds⟩) by rw [hrv]; simp only [refE, ← hFB, hp]; rfl)
      clear hrv hFB
      rcases hk with rfl | ⟨h5k, rfl⟩ | ⟨h5k, h1k⟩
      · replace hr := hide (show rv = errV 13 by rw [unhide hr]; rfl)
        go_enter Tryz.func63, Tryz.ntmps63
        go_wp2_with fail
        refine (cF _).mono ?_
        rintro e w1 ⟨rfl, hb1⟩
        have hs := (xs.on hb1 xs.lt).one.1
        have hc1 := (xc.on hb1 xc.lt).seven.2.1
        go_wp2_with fail
        refine (find_some a cap ts t.1 j h5 _ (T0.on hb1) hp (hk5 j)).mono ?_
        rintro e w2 ⟨a', c', rfl, -, hb2⟩
        have b2 := hb1.trans (hb2.mono hb1.size)
        have xc2 := (xc.on b2 xc.lt).alloc (.cells #[.string (ty ts j).1.1, .slice a' (ty ts j).2.length c'] 69)
        have b3 : Below _ _ (w2.alloc (.cells #[.string (ty ts j).1.1, .slice a' (ty ts j).2.length c'] 69)) := b2.alloc b2.size _
        clear hs hc1
        obtain ⟨hc0, hc1, -, -, -, -, -⟩ := xc2.seven
        go_wp2_with fail
        go_ret
        exact ⟨by rw [unhide hr]; rfl, b0.trans (b3.mono b0.size)⟩
      · replace hr := hide (show rv = errE (addE (ty ts j).2 ⟨1, t, f, o, dk, dn, ds⟩) by rw [unhide hr]; rfl)
        clear h5k
        go_enter Tryz.func63, Tryz.ntmps63
        go_wp2_with fail
        refine (cF _).mono ?_
        rintro e w1 ⟨rfl, hb1⟩
        have hs := (xs.on hb1 xs.lt).one.1
        have hc1 := (xc.on hb1 xc.lt).seven.2.1
        go_wp2_with fail
        refine (find_some a cap ts t.1 j h5 _ (T0.on hb1) hp (hk5 j)).mono ?_
        rintro e w2 ⟨a', c', rfl, ⟨hF, -⟩, hb2⟩
        have b2 := hb1.trans (hb2.mono hb1.size)
        have xc2 := (xc.on b2 xc.lt).alloc (.cells #[.string (ty ts j).1.1, .slice a' (ty ts j).2.length c'] 69)
        have xt2 := Box.new w2 69 #[.string (ty ts j).1.1, .slice a' (ty ts j).2.length c']
        have b3' : Below w2.heap.size w2 (w2.alloc (.cells #[.string (ty ts j).1.1, .slice a' (ty ts j).2.length c'] 69)) := (Below.refl _ _).alloc (Nat.le_refl _) _
        have b3 := b2.trans (b3'.mono b2.size)
        have F3 := hF.on b3'
        have cc := hide (unhide cA (ty ts j).2 (ty ts j).1.1 a' c' _ (hk5 j) F3)
        clear hs hc1 hF F3
        obtain ⟨hc0, hc1, hc2, hc3, hc4, hc5, hc6⟩ := xc2.seven
        obtain ⟨ht0, ht1⟩ := xt2.two
        go_wp2_with fail
        refine (unhide cc).mono ?_
        rintro e w3 ⟨rfl, hb3⟩
        clear hc0 hc1 hc2 hc3 hc4 hc5 hc6 ht0 ht1
        rw [← unhide hr]
        go_wp2_with fail
        go_ret
        exact ⟨rfl, b0.trans ((b3.trans (hb3.mono b3.size)).mono b0.size)⟩
      · replace hr := hide (show rv = errE (atE (ty ts j).2 ⟨k, t, f, o, dk, dn, ds⟩) by rw [unhide hr, if_neg h5k, if_neg h1k])
        have h5' : (k == 5) = false := by simp [h5k]
        have h1' : (k == 1) = false := by simp [h1k]
        clear h5k h1k
        go_enter Tryz.func63, Tryz.ntmps63
        go_wp2_with fail
        refine (cF _).mono ?_
        rintro e w1 ⟨rfl, hb1⟩
        have hs := (xs.on hb1 xs.lt).one.1
        have hc1 := (xc.on hb1 xc.lt).seven.2.1
        go_wp2_with fail
        refine (find_some a cap ts t.1 j h5 _ (T0.on hb1) hp (hk5 j)).mono ?_
        rintro e w2 ⟨a', c', rfl, ⟨hF, -⟩, hb2⟩
        have b2 := hb1.trans (hb2.mono hb1.size)
        have xc2 := (xc.on b2 xc.lt).alloc (.cells #[.string (ty ts j).1.1, .slice a' (ty ts j).2.length c'] 69)
        have xt2 := Box.new w2 69 #[.string (ty ts j).1.1, .slice a' (ty ts j).2.length c']
        have b3' : Below w2.heap.size w2 (w2.alloc (.cells #[.string (ty ts j).1.1, .slice a' (ty ts j).2.length c'] 69)) := (Below.refl _ _).alloc (Nat.le_refl _) _
        have b3 := b2.trans (b3'.mono b2.size)
        have F3 := hF.on b3'
        have cc := hide (unhide cB (ty ts j).2 (ty ts j).1.1 a' c' _ (hk5 j) F3)
        clear hs hc1 hF F3
        obtain ⟨hc0, hc1, hc2, hc3, hc4, hc5, hc6⟩ := xc2.seven
        obtain ⟨ht0, ht1⟩ := xt2.two
        go_wp2_with fail
        refine (unhide cc).mono ?_
        rintro e w3 ⟨rfl, hb3⟩
        clear hc0 hc1 hc2 hc3 hc4 hc5 hc6 ht0 ht1
        rw [← unhide hr]
        go_wp2_with fail
        go_ret
        exact ⟨rfl, b0.trans ((b3.trans (hb3.mono b3.size)).mono b0.size)⟩

end Go.Proofs.YtcjpaldijngnpaaGreatDoor
