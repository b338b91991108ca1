/-
  Why a change may not be (package evolve: refusal): for every schema of at most 5 types of at most 5 fields and every change, in whatever world; nothing that lay is turned.
-/
import Derived.Test.YtcjpaldijngnpaaGreatRefuseAdd
import Derived.Test.YtcjpaldijngnpaaGreatRefuseAt
namespace Go.Proofs.YtcjpaldijngnpaaGreat
open Go.RowKit Go.Shelf

/-- Why a change may not be: 10, 12, 13, 14; 0: it may. -/
def refE (ts : List Ty) (c : Ch) : Int :=
  if formedB c then
    match placeN (tnames ts) c.t.1 with
    | none => if c.k = 5 then (if 5 ≤ ts.length then 12 else 0) else 13
    | some j => if c.k = 5 then 13 else if c.k = 1 then addE (ty ts j).2 c else atE (ty ts j).2 c
  else 10

set_option maxRecDepth 100000 in
set_option maxHeartbeats 4000000 in
theorem refusal_c (a : Option Addr) (cap : Nat) (ts : List Ty) (c : Ch) (h5 : ts.length ≤ 5) (hk5 : ∀ k, (ty ts k).2.length ≤ 5) (w : World) (hT : Typs w.heap.size w a ts) :
    Calls Tryz.prog 38 #[.agg #[.slice a ts.length cap], c.v] w fun e w' => e = .returned (errE (refE ts c)) ∧ Below w.heap.size w w' := by
  have cF : ∀ W, Calls Tryz.prog 59 #[c.v] W fun e w' => e = .returned (.bool (formedB c)) ∧ Below W.heap.size W w' := fun W => formed_c c W
  obtain ⟨rv, hrv⟩ : ∃ rv, rv = errE (refE ts c) := ⟨_, rfl⟩
  rw [← hrv]
  have cA : ∀ (fs : List Fd) (nm : ByteArray) (a : Option Addr) (cap : Nat) (W : World), fs.length ≤ 5 → Flds W.heap.size W a fs → Calls Tryz.prog 61 #[.agg #[.string nm, .slice a fs.length cap], c.v] W fun e w' => e = .returned (errE (addE fs c)) ∧ Below W.heap.size W w' := fun fs nm a cap W h5 hF => ofAdd_c nm a cap fs c h5 W hF
  have cB : ∀ (fs : List Fd) (nm : ByteArray) (a : Option Addr) (cap : Nat) (W : World), fs.length ≤ 5 → Flds W.heap.size W a fs → Calls Tryz.prog 62 #[.agg #[.string nm, .slice a fs.length cap], c.v] W fun e w' => e = .returned (errE (atE fs c)) ∧ Below W.heap.size W w' := fun fs nm a cap W h5 hF => atField_c nm a cap fs c h5 W hF
  have hk : c.k = 5 ∨ (c.k ≠ 5 ∧ c.k = 1) ∨ (c.k ≠ 5 ∧ c.k ≠ 1) := by omega
  obtain ⟨k, t, f, o, dk, dn, ds⟩ := c
  obtain ⟨FB, hFB⟩ : ∃ FB, FB = formedB ⟨k, t, f, o, dk, dn, ds⟩ := ⟨_, rfl⟩
  rw [← hFB] at cF
  have b0 : Below w.heap.size w ((w.alloc (.cells #[.slice a ts.length cap] 33)).alloc (.cells #[.int .i64 k, .string t.1, .string f.1, .string o.1, .int .i64 dk, .int .i64 dn, .string ds.1] 37)) := ((Below.refl _ _).alloc (Nat.le_refl _) _).alloc (by simp) _
  have xs := (Box.new w 33 #[.slice a ts.length cap]).alloc (.cells #[.int .i64 k, .string t.1, .string f.1, .string o.1, .int .i64 dk, .int .i64 dn, .string ds.1] 37)
  have xc := Box.new (w.alloc (.cells #[.slice a ts.length cap] 33)) 37 #[.int .i64 k, .string t.1, .string f.1, .string o.1, .int .i64 dk, .int .i64 dn, .string ds.1]
  rw [World.size_alloc] at xc
  have T0 := hT.on b0
  replace cA := hide cA
  replace cB := hide cB
  simp only at hk
  cases FB with
  | false =>
    have hr := hide (show rv = errV 10 by rw [hrv]; simp [refE, ← hFB, errE])
    clear hrv hFB hk
    go_enter Tryz.func38, Tryz.ntmps38
    go_wp2_with fail
    refine (cF _).mono ?_
    rintro e w1 ⟨rfl, hb1⟩
    go_wp2_with fail
    go_ret
    exact ⟨by rw [unhide hr]; rfl, below2 hb1⟩
  | true =>
    cases hp : placeN (tnames ts) t.1 with
    | none =>
      have hr := hide (show rv = errE (if k = 5 then (if 5 ≤ ts.length then 12 else 0) else 13) by rw [hrv]; simp only [refE, ← hFB, hp]; rfl)
      clear hrv hFB
      by_cases hk5 : k = 5
      · subst hk5
        replace hr := hide (show rv = errE (if 5 ≤ ts.length then 12 else 0) by rw [unhide hr]; rfl)
        clear hk
        go_enter Tryz.func38, Tryz.ntmps38
        go_wp2_with fail
        refine (cF _).mono ?_
        rintro e w1 ⟨rfl, hb1⟩
        have hs := (xs.on hb1 xs.lt).one.1
        have hc1 := (xc.on hb1 xc.lt).seven.2.1
        go_wp2_with fail
        refine (find_none a cap ts t.1 h5 _ (T0.on hb1) hp).mono ?_
        rintro e w2 ⟨rfl, hb2⟩
        have b2 := hb1.trans (hb2.mono hb1.size)
        have xs2 := (xs.on b2 xs.lt).alloc (.cells #[.string ⟨#[]⟩, .slice none 0 0] 30)
        have xc2 := (xc.on b2 xc.lt).alloc (.cells #[.string ⟨#[]⟩, .slice none 0 0] 30)
        have b3 : Below _ _ (w2.alloc (.cells #[.string ⟨#[]⟩, .slice none 0 0] 30)) := b2.alloc b2.size _
        clear hs hc1
        have hs := xs2.one.1
        obtain ⟨hc0, hc1, -, -, -, -, -⟩ := xc2.seven
        go_wp2_with fail
        refine (ofType_c _ _ _ _).mono ?_
        rintro e w3 ⟨rfl, hb3⟩
        clear hs hc0 hc1
        rw [← unhide hr]
        go_wp2_with fail
        go_ret
        exact ⟨rfl, b0.trans ((b3.trans (hb3.mono b3.size)).mono b0.size)⟩
      · have hk' : (k == 5) = false := by simp [hk5]
        replace hr := hide (show rv = errV 13 by rw [unhide hr, if_neg hk5]; rfl)
        clear hk hk5
        go_enter Tryz.func38, Tryz.ntmps38
        go_wp2_with fail
        refine (cF _).mono ?_
        rintro e w1 ⟨rfl, hb1⟩
        have hs := (xs.on hb1 xs.lt).one.1
        have hc1 := (xc.on hb1 xc.lt).seven.2.1
        go_wp2_with fail
        refine (find_none a cap ts t.1 h5 _ (T0.on hb1) hp).mono ?_
        rintro e w2 ⟨rfl, hb2⟩
        have b2 := hb1.trans (hb2.mono hb1.size)
        have xc2 := (xc.on b2 xc.lt).alloc (.cells #[.string ⟨#[]⟩, .slice none 0 0] 30)
        have b3 : Below _ _ (w2.alloc (.cells #[.string ⟨#[]⟩, .slice none 0 0] 30)) := b2.alloc b2.size _
        clear hs hc1
        obtain ⟨hc0, hc1, -, -, -, -, -⟩ := xc2.seven
        go_wp2_with fail
        go_ret
        exact ⟨by rw [unhide hr]; rfl, b0.trans (b3.mono b0.size)⟩
    | some j =>
      have hr := hide (show rv = errE (if k = 5 then 13 else if k = 1 then addE (ty ts j).2 ⟨k, t, f, o, dk, dn, ds⟩ else atE (ty ts j).2 ⟨k, t, f, o, dk, dn, ds⟩) by rw [hrv]; simp only [refE, ← hFB, hp]; rfl)
      clear hrv hFB
      rcases hk with rfl | ⟨h5k, rfl⟩ | ⟨h5k, h1k⟩
      · replace hr := hide (show rv = errV 13 by rw [unhide hr]; rfl)
        go_enter Tryz.func38, Tryz.ntmps38
        go_wp2_with fail
        refine (cF _).mono ?_
        rintro e w1 ⟨rfl, hb1⟩
        have hs := (xs.on hb1 xs.lt).one.1
        have hc1 := (xc.on hb1 xc.lt).seven.2.1
        go_wp2_with fail
        refine (find_some a cap ts t.1 j h5 _ (T0.on hb1) hp (hk5 j)).mono ?_
        rintro e w2 ⟨a', c', rfl, -, hb2⟩
        have b2 := hb1.trans (hb2.mono hb1.size)
        have xc2 := (xc.on b2 xc.lt).alloc (.cells #[.string (ty ts j).1.1, .slice a' (ty ts j).2.length c'] 30)
        have b3 : Below _ _ (w2.alloc (.cells #[.string (ty ts j).1.1, .slice a' (ty ts j).2.length c'] 30)) := b2.alloc b2.size _
        clear hs hc1
        obtain ⟨hc0, hc1, -, -, -, -, -⟩ := xc2.seven
        go_wp2_with fail
        go_ret
        exact ⟨by rw [unhide hr]; rfl, b0.trans (b3.mono b0.size)⟩
      · replace hr := hide (show rv = errE (addE (ty ts j).2 ⟨1, t, f, o, dk, dn, ds⟩) by rw [unhide hr]; rfl)
        clear h5k
        go_enter Tryz.func38, Tryz.ntmps38
        go_wp2_with fail
        refine (cF _).mono ?_
        rintro e w1 ⟨rfl, hb1⟩
        have hs := (xs.on hb1 xs.lt).one.1
        have hc1 := (xc.on hb1 xc.lt).seven.2.1
        go_wp2_with fail
        refine (find_some a cap ts t.1 j h5 _ (T0.on hb1) hp (hk5 j)).mono ?_
        rintro e w2 ⟨a', c', rfl, ⟨hF, -⟩, hb2⟩
        have b2 := hb1.trans (hb2.mono hb1.size)
        have xc2 := (xc.on b2 xc.lt).alloc (.cells #[.string (ty ts j).1.1, .slice a' (ty ts j).2.length c'] 30)
        have xt2 := Box.new w2 30 #[.string (ty ts j).1.1, .slice a' (ty ts j).2.length c']
        have b3' : Below w2.heap.size w2 (w2.alloc (.cells #[.string (ty ts j).1.1, .slice a' (ty ts j).2.length c'] 30)) := (Below.refl _ _).alloc (Nat.le_refl _) _
        have b3 := b2.trans (b3'.mono b2.size)
        have F3 := hF.on b3'
        have cc := hide (unhide cA (ty ts j).2 (ty ts j).1.1 a' c' _ (hk5 j) F3)
        clear hs hc1 hF F3
        obtain ⟨hc0, hc1, hc2, hc3, hc4, hc5, hc6⟩ := xc2.seven
        obtain ⟨ht0, ht1⟩ := xt2.two
        go_wp2_with fail
        refine (unhide cc).mono ?_
        rintro e w3 ⟨rfl, hb3⟩
        clear hc0 hc1 hc2 hc3 hc4 hc5 hc6 ht0 ht1
        rw [← unhide hr]
        go_wp2_with fail
        go_ret
        exact ⟨rfl, b0.trans ((b3.trans (hb3.mono b3.size)).mono b0.size)⟩
      · replace hr := hide (show rv = errE (atE (ty ts j).2 ⟨k, t, f, o, dk, dn, ds⟩) by rw [unhide hr, if_neg h5k, if_neg h1k])
        have h5' : (k == 5) = false := by simp [h5k]
        have h1' : (k == 1) = false := by simp [h1k]
        clear h5k h1k
        go_enter Tryz.func38, Tryz.ntmps38
        go_wp2_with fail
        refine (cF _).mono ?_
        rintro e w1 ⟨rfl, hb1⟩
        have hs := (xs.on hb1 xs.lt).one.1
        have hc1 := (xc.on hb1 xc.lt).seven.2.1
        go_wp2_with fail
        refine (find_some a cap ts t.1 j h5 _ (T0.on hb1) hp (hk5 j)).mono ?_
        rintro e w2 ⟨a', c', rfl, ⟨hF, -⟩, hb2⟩
        have b2 := hb1.trans (hb2.mono hb1.size)
        have xc2 := (xc.on b2 xc.lt).alloc (.cells #[.string (ty ts j).1.1, .slice a' (ty ts j).2.length c'] 30)
        have xt2 := Box.new w2 30 #[.string (ty ts j).1.1, .slice a' (ty ts j).2.length c']
        have b3' : Below w2.heap.size w2 (w2.alloc (.cells #[.string (ty ts j).1.1, .slice a' (ty ts j).2.length c'] 30)) := (Below.refl _ _).alloc (Nat.le_refl _) _
        have b3 := b2.trans (b3'.mono b2.size)
        have F3 := hF.on b3'
        have cc := hide (unhide cB (ty ts j).2 (ty ts j).1.1 a' c' _ (hk5 j) F3)
        clear hs hc1 hF F3
        obtain ⟨hc0, hc1, hc2, hc3, hc4, hc5, hc6⟩ := xc2.seven
        obtain ⟨ht0, ht1⟩ := xt2.two
        go_wp2_with fail
        refine (unhide cc).mono ?_
        rintro e w3 ⟨rfl, hb3⟩
        clear hc0 hc1 hc2 hc3 hc4 hc5 hc6 ht0 ht1
        rw [← unhide hr]
        go_wp2_with fail
        go_ret
        exact ⟨rfl, b0.trans ((b3.trans (hb3.mono b3.size)).mono b0.size)⟩

end Go.Proofs.YtcjpaldijngnpaaGreat
