/-
  Why a field may not be added (package evolve: refusalOfAdd): for every type of at most 5 fields and every change, in whatever world; nothing that lay is turned.
-/
import Derived.Test.YtcjpaldijngnpaaGreatRefuse
namespace Go.Proofs.YtcjpaldijngnpaaGreat
open Go.RowKit Go.Shelf

/-- Why a field may not be added: 10, 13, 12; 0: it may. -/
def addE (fs : List Fd) (c : Ch) : Int :=
  if nameB c.f.1 && isB c.dk c.dn c.ds.1 then (if hasB fs c.f.1 then 13 else if 5 ≤ fs.length then 12 else 0) else 10

set_option maxRecDepth 100000 in
set_option maxHeartbeats 4000000 in
theorem ofAdd_c (nm : ByteArray) (a : Option Addr) (cap : Nat) (fs : List Fd) (c : Ch) (h5 : fs.length ≤ 5) (w : World) (hF : Flds w.heap.size w a fs) :
    Calls Tryz.prog 61 #[.agg #[.string nm, .slice a fs.length cap], c.v] w fun e w' => e = .returned (errE (addE fs c)) ∧ Below w.heap.size w w' := by
  obtain ⟨k, t, f, o, dk, dn, ds⟩ := c
  have b0 : Below w.heap.size w ((w.alloc (.cells #[.string nm, .slice a fs.length cap] 30)).alloc (.cells #[.int .i64 k, .string t.1, .string f.1, .string o.1, .int .i64 dk, .int .i64 dn, .string ds.1] 37)) := ((Below.refl _ _).alloc (Nat.le_refl _) _).alloc (by simp) _
  have F0 := hF.on b0
  obtain ⟨rv, hrv⟩ : ∃ rv, rv = errE (addE fs ⟨k, t, f, o, dk, dn, ds⟩) := ⟨_, rfl⟩
  rw [← hrv]
  have xt := (Box.new w 30 #[.string nm, .slice a fs.length cap]).alloc (.cells #[.int .i64 k, .string t.1, .string f.1, .string o.1, .int .i64 dk, .int .i64 dn, .string ds.1] 37)
  have xc := Box.new (w.alloc (.cells #[.string nm, .slice a fs.length cap] 30)) 37 #[.int .i64 k, .string t.1, .string f.1, .string o.1, .int .i64 dk, .int .i64 dn, .string ds.1]
  rw [World.size_alloc] at xc
  cases hN : nameB f.1
  · have hr := hide (show rv = errV 10 by rw [hrv]; simp [addE, hN, errE])
    clear hrv
    go_enter Tryz.func61, Tryz.ntmps61
    go_wp2_with fail
    refine (name_c _ _ f.2).mono ?_
    rintro e w1 ⟨rfl, hb1⟩
    rw [hN]
    go_wp2_with fail
    go_ret
    exact ⟨by rw [unhide hr]; rfl, below2 hb1⟩
  cases hI : isB dk dn ds.1
  · have hr := hide (show rv = errV 10 by rw [hrv]; simp [addE, hN, hI, errE])
    clear hrv
    go_enter Tryz.func61, Tryz.ntmps61
    go_wp2_with fail
    refine (name_c _ _ f.2).mono ?_
    rintro e w1 ⟨rfl, hb1⟩
    rw [hN]
    obtain ⟨-, -, hc2, -, hc4, hc5, hc6⟩ := (xc.on hb1 xc.lt).seven
    go_wp2_with fail
    refine (valIs_c _ _ _ _ ds.2).mono ?_
    rintro e w2 ⟨rfl, hb2⟩
    rw [hI]
    go_wp2_with fail
    go_ret
    exact ⟨by rw [unhide hr]; rfl, b0.trans ((hb1.trans (hb2.mono hb1.size)).mono b0.size)⟩
  have hr := hide (show rv = errE (if hasB fs f.1 then 13 else if 5 ≤ fs.length then 12 else 0) by rw [hrv]; simp [addE, hN, hI])
  clear hrv
  cases hH : hasB fs f.1
  · replace hr := hide (show rv = errE (if 5 ≤ fs.length then 12 else 0) by rw [unhide hr, hH]; rfl)
    by_cases hl : 5 ≤ fs.length
    · replace hr := hide (show rv = errV 12 by rw [unhide hr]; simp [hl, errE])
      have hl' : (5 : Int) ≤ fs.length := by omega
      clear hl
      go_enter Tryz.func61, Tryz.ntmps61
      go_wp2_with fail
      refine (name_c _ _ f.2).mono ?_
      rintro e w1 ⟨rfl, hb1⟩
      rw [hN]
      obtain ⟨-, -, hc2, -, hc4, hc5, hc6⟩ := (xc.on hb1 xc.lt).seven
      go_wp2_with fail
      refine (valIs_c _ _ _ _ ds.2).mono ?_
      rintro e w2 ⟨rfl, hb2⟩
      rw [hI]
      have b2 := hb1.trans (hb2.mono hb1.size)
      have xt2 := xt.on b2 xt.lt
      have F2 := F0.on b2
      obtain ⟨ht0, ht1⟩ := xt2.two
      clear hc2 hc4 hc5 hc6
      obtain ⟨-, -, hc2, -, -, -, -⟩ := (xc.on b2 xc.lt).seven
      go_wp2_with fail
      refine (has_c _ _ _ _ _ h5 _ F2).mono ?_
      rintro e w3 ⟨rfl, hb3⟩
      rw [hH]
      have ht3 := (xt2.on hb3 xt2.lt).two.2
      clear ht0 ht1 hc2
      go_wp2_with fail
      go_ret
      exact ⟨by rw [unhide hr]; rfl, b0.trans ((b2.trans (hb3.mono b2.size)).mono b0.size)⟩
    · replace hr := hide (show rv = .nilIface by rw [unhide hr]; simp [hl, errE])
      have hl' : ¬ (5 : Int) ≤ fs.length := by omega
      clear hl
      go_enter Tryz.func61, Tryz.ntmps61
      go_wp2_with fail
      refine (name_c _ _ f.2).mono ?_
      rintro e w1 ⟨rfl, hb1⟩
      rw [hN]
      obtain ⟨-, -, hc2, -, hc4, hc5, hc6⟩ := (xc.on hb1 xc.lt).seven
      go_wp2_with fail
      refine (valIs_c _ _ _ _ ds.2).mono ?_
      rintro e w2 ⟨rfl, hb2⟩
      rw [hI]
      have b2 := hb1.trans (hb2.mono hb1.size)
      have xt2 := xt.on b2 xt.lt
      have F2 := F0.on b2
      obtain ⟨ht0, ht1⟩ := xt2.two
      clear hc2 hc4 hc5 hc6
      obtain ⟨-, -, hc2, -, -, -, -⟩ := (xc.on b2 xc.lt).seven
      go_wp2_with fail
      refine (has_c _ _ _ _ _ h5 _ F2).mono ?_
      rintro e w3 ⟨rfl, hb3⟩
      rw [hH]
      have ht3 := (xt2.on hb3 xt2.lt).two.2
      clear ht0 ht1 hc2
      go_wp2_with fail
      go_ret
      exact ⟨by rw [unhide hr]; rfl, b0.trans ((b2.trans (hb3.mono b2.size)).mono b0.size)⟩
  · replace hr := hide (show rv = errV 13 by rw [unhide hr, hH]; rfl)
    go_enter Tryz.func61, Tryz.ntmps61
    go_wp2_with fail
    refine (name_c _ _ f.2).mono ?_
    rintro e w1 ⟨rfl, hb1⟩
    rw [hN]
    obtain ⟨-, -, hc2, -, hc4, hc5, hc6⟩ := (xc.on hb1 xc.lt).seven
    go_wp2_with fail
    refine (valIs_c _ _ _ _ ds.2).mono ?_
    rintro e w2 ⟨rfl, hb2⟩
    rw [hI]
    have b2 := hb1.trans (hb2.mono hb1.size)
    have xt2 := xt.on b2 xt.lt
    have F2 := F0.on b2
    obtain ⟨ht0, ht1⟩ := xt2.two
    clear hc2 hc4 hc5 hc6
    obtain ⟨-, -, hc2, -, -, -, -⟩ := (xc.on b2 xc.lt).seven
    go_wp2_with fail
    refine (has_c _ _ _ _ _ h5 _ F2).mono ?_
    rintro e w3 ⟨rfl, hb3⟩
    rw [hH]
    clear ht0 ht1 hc2
    go_wp2_with fail
    go_ret
    exact ⟨by rw [unhide hr]; rfl, b0.trans ((b2.trans (hb3.mono b2.size)).mono b0.size)⟩

end Go.Proofs.YtcjpaldijngnpaaGreat
