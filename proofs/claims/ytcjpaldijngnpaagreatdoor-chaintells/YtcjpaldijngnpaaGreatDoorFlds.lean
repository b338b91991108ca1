/-
  What the walk over the fields of a type behind a change gives: for every type of at most 5 fields and every change, in whatever world: each field that stays, with the place that it had, and the new one; nothing that lay is turned.
-/
import Derived.Test.YtcjpaldijngnpaaGreatDoorAll
import Derived.Test.YtcjpaldijngnpaaGreatDoorFind
import Derived.Test.YtcjpaldijngnpaaGreatDoorBox
namespace Go.Proofs.YtcjpaldijngnpaaGreatDoor
open Go.RowKit Go.Shelf

attribute [local go_sem] Oper.semAt_some

/-- A change: its kind, type, field, new name, and the value that it adds. -/
structure Ch where
  k : Int
  t : Txt
  f : Txt
  o : Txt
  dk : Int
  dn : Int
  ds : Txt
/-- The change as a value. -/
abbrev Ch.v (c : Ch) : Value := .agg #[.int .i64 c.k, .string c.t.1, .string c.f.1, .string c.o.1, .int .i64 c.dk, .int .i64 c.dn, .string c.ds.1]
/-- The change as it lies in memory. -/
abbrev Ch.cs (c : Ch) : Array Value := #[.int .i64 c.k, .string c.t.1, .string c.f.1, .string c.o.1, .int .i64 c.dk, .int .i64 c.dn, .string c.ds.1]

theorem Box.seven {W : World} {B : Nat} {t : TypeId} {v0 v1 v2 v3 v4 v5 v6 : Value} (h : Box W B t #[v0, v1, v2, v3, v4, v5, v6]) : W.cell? ⟨B, 0, none⟩ = some v0 ∧ W.cell? ⟨B, 1, none⟩ = some v1 ∧ W.cell? ⟨B, 2, none⟩ = some v2 ∧ W.cell? ⟨B, 3, none⟩ = some v3 ∧ W.cell? ⟨B, 4, none⟩ = some v4 ∧ W.cell? ⟨B, 5, none⟩ = some v5 ∧ W.cell? ⟨B, 6, none⟩ = some v6 :=
  ⟨h.at 0 rfl, h.at 1 rfl, h.at 2 rfl, h.at 3 rfl, h.at 4 rfl, h.at 5 rfl, h.at 6 rfl⟩

/-- These blocks lie as they lay. -/
structure Keep (K : Nat → Prop) (A B : World) : Prop where
  size : A.heap.size ≤ B.heap.size
  same : ∀ k, K k → k < A.heap.size → B.heap[k]? = A.heap[k]?
theorem Keep.refl (K : Nat → Prop) (A : World) : Keep K A A := ⟨Nat.le_refl _, fun _ _ _ => rfl⟩
theorem Keep.trans {K : Nat → Prop} {A B C : World} (h : Keep K A B) (k : Keep K B C) : Keep K A C := ⟨Nat.le_trans h.size k.size, fun i hi hl => (k.same i hi (Nat.lt_of_lt_of_le hl h.size)).trans (h.same i hi hl)⟩
theorem Keep.below {K : Nat → Prop} {A B : World} (h : Below A.heap.size A B) : Keep K A B := ⟨h.size, fun k _ hl => h.block k hl⟩
theorem Keep.on {K : Nat → Prop} {A B C : World} (h : Keep K A B) (k : Below B.heap.size B C) : Keep K A C := h.trans (Keep.below k)
theorem Keep.box {K : Nat → Prop} {A B : World} (h : Keep K A B) {X : Nat} {t : TypeId} {cs : Array Value} (hb : Box A X t cs) (hK : K X) : Box B X t cs := (h.same X hK hb.lt).trans hb
theorem Keep.flds {K : Nat → Prop} {A B : World} (h : Keep K A B) {n : Nat} {a : Option Addr} {fs : List Fd} (hF : Flds n A a fs) (hn : n ≤ A.heap.size) (hK : ∀ k, k < n → K k) : Flds n B a fs := by
  rcases hF with e | ⟨b, off, e, hb, hc⟩
  · exact .inl e
  · refine .inr ⟨b, off, e, hb, fun j hj => ?_⟩
    have := h.same b (hK b hb) (Nat.lt_of_lt_of_le hb hn)
    exact ⟨(World.cell?_of_block (w := A) (a := ⟨b, off + j * 2, none⟩) this).trans (hc j hj).1, (World.cell?_of_block (w := A) (a := ⟨b, off + j * 2 + 1, none⟩) this).trans (hc j hj).2⟩

/-- A field behind a change (none: it is gone). -/
def fchg (mine : Bool) (c : Ch) (f : Fd) : Option Fd :=
  if mine && (f.1.1.toList == c.f.1.toList) then (if c.k = 2 then none else if c.k = 3 then some (c.o, f.2) else if c.k = 4 then some (f.1, 1) else some f) else some f
/-- A field with its place. -/
abbrev Pf := Int × Fd
abbrev pfV (x : Pf) : Array Value := #[.int .i64 x.1, .agg #[.string x.2.1.1, .int .i64 x.2.2]]
def fTo (mine : Bool) (c : Ch) (fs : List Fd) (k : Nat) : List Pf := (List.range k).filterMap fun j => (fchg mine c (fd fs j)).map fun g => ((j : Int), g)
theorem fTo_succ (mine : Bool) (c : Ch) (fs : List Fd) (k : Nat) : fTo mine c fs (k + 1) = fTo mine c fs k ++ ((fchg mine c (fd fs k)).map fun g => ((k : Int), g)).toList := by
  simp only [fTo, List.range_succ, List.filterMap_append, List.filterMap_cons, List.filterMap_nil]
  cases (fchg mine c (fd fs k)) <;> simp
theorem fTo_len (mine : Bool) (c : Ch) (fs : List Fd) (k : Nat) : (fTo mine c fs k).length ≤ k := by
  have := List.length_filterMap_le (fun j => (fchg mine c (fd fs j)).map fun g => ((j : Int), g)) (List.range k)
  simpa [fTo] using this
/-- All that the walk gives. -/
def fAll (mine : Bool) (c : Ch) (fs : List Fd) : List Pf := fTo mine c fs fs.length ++ if mine && decide (c.k = 1) then [(-1, (c.f, c.dk))] else []

set_option maxRecDepth 100000 in
set_option maxHeartbeats 4000000 in
theorem fields1_all (n : Nat) (hn : 1 ≤ n) (l Bt Bc n₀ cap : Nat) (a : Option Addr) (nm : Txt) (fs : List Fd) (c : Ch) (h5 : fs.length ≤ 5) (J : List Pf → World → Prop)
    (hJ : ∀ {pre W W'}, J pre W → Below W.heap.size W W' → J pre W')
    (ok : Pf → Prop) (hok : ∀ (k : Nat) g, k < fs.length → ok ((k : Int), g)) (hok' : ok (-1, (c.f, c.dk)))
    (hY : ∀ pre x W, ok x → J pre W → pre.length < fs.length + 1 → YieldAt Fence.wide (n - 1) Tryz.prog l (pfV x) W fun e W' => e = .returned (.bool true) ∧ J (pre ++ [x]) W' ∧ Keep (fun k => k < n₀ ∨ k = Bt ∨ k = Bc) W W')
    (W : World) (hn₀ : n₀ ≤ W.heap.size) (hBt : Box W Bt 69 #[.string nm.1, .slice a fs.length cap]) (hBc : Box W Bc 42 c.cs) (hF : Flds n₀ W a fs) (h0 : J [] W) :
    CallsIn Fence.wide n Tryz.prog 110 #[.func (.yield l) #[] #[], .pointer (some ⟨Bt, 0, none⟩), .pointer (some ⟨Bc, 0, none⟩)] W fun e W' => (∃ v, e = .returned v) ∧ J (fAll (nm.1.toList == c.t.1.toList) c fs) W' := by
  replace hok := hide hok
  replace hok' := hide hok'
  obtain ⟨ck, ct, cf, co, dk, dn, ds⟩ := c
  obtain ⟨mine, hm⟩ : ∃ mine : Bool, mine = (nm.1.toList == ct.1.toList) := ⟨_, rfl⟩
  show CallsIn Fence.wide n Tryz.prog 110 #[.func (.yield l) #[] #[], .pointer (some ⟨Bt, 0, none⟩), .pointer (some ⟨Bc, 0, none⟩)] W fun e W' => (∃ v, e = .returned v) ∧ J (fAll (nm.1.toList == ct.1.toList) ⟨ck, ct, cf, co, dk, dn, ds⟩ fs) W'
  rw [← hm]
  have hm' := hm.symm
  clear hm
  obtain ⟨ht0, ht1⟩ := hBt.two
  obtain ⟨hc0, hc1, hc2, hc3, hc4, hc5, hc6⟩ := hBc.seven
  refine callsIn_of_wp Tryz.func110 rfl trivial ?_ rfl
  simp only [Tryz.ntmps110, List.size_toArray, List.length_cons, List.length_nil, Nat.reduceAdd, Nat.reduceSub, Array.replicate_succ, Array.replicate_zero, List.push_toArray, List.append_toArray, List.nil_append, List.cons_append]
  gi_wp2
  have hK0 : ∀ k, k < n₀ → (k < n₀ ∨ k = Bt ∨ k = Bc) := fun k h => .inl h
  gi_loopw [15] (fun i wr => ∃ k : Nat, k ≤ fs.length ∧ i = .int .i64 k ∧ J (fTo mine ⟨ck, ct, cf, co, dk, dn, ds⟩ fs k) wr ∧ Keep (fun k => k < n₀ ∨ k = Bt ∨ k = Bc) W wr)
    (fun i _ => fs.length - (intOf i).toNat)
  case atStart => exact ⟨0, Nat.zero_le _, rfl, h0, Keep.refl _ _⟩
  case round =>
    obtain ⟨k, hk, rfl, hJs, hkp⟩ := hrel
    have hBc' := hkp.box hBc (.inr (.inr rfl))
    have hF' := hkp.flds hF hn₀ hK0
    clear ht0 ht1 hc0 hc1 hc2 hc3 hc4 hc5 hc6
    obtain ⟨hc0, hc1, hc2, hc3, hc4, hc5, hc6⟩ := hBc'.seven
    by_cases hlt : k < fs.length
    · rcases hF' with rfl | ⟨b, off, rfl, hb, hcs⟩
      · simp at hlt
      obtain ⟨hd1, hd2⟩ := hcs k hlt
      have hlen : (fTo mine ⟨ck, ct, cf, co, dk, dn, ds⟩ fs k).length < fs.length + 1 := by have := fTo_len mine ⟨ck, ct, cf, co, dk, dn, ds⟩ fs k; omega
      have hsucc := fTo_succ mine ⟨ck, ct, cf, co, dk, dn, ds⟩ fs k
      have bA : Below wr.heap.size wr (wr.alloc (.cells #[.string (fd fs k).1.1, .int .i64 (fd fs k).2] 66)) := (Below.refl _ _).alloc (Nat.le_refl _) _
      have bS : Below wr.heap.size wr (wr.alloc (.cells #[.string co.1, .int .i64 (fd fs k).2] 66)) := (Below.refl _ _).alloc (Nat.le_refl _) _
      have bT : Below wr.heap.size wr (wr.alloc (.cells #[.string (fd fs k).1.1, .int .i64 1] 66)) := (Below.refl _ _).alloc (Nat.le_refl _) _
      have hBl := hBc'.lt
      cases mine
      · have HS := hide (show fchg false ⟨ck, ct, cf, co, dk, dn, ds⟩ (fd fs k) = some (fd fs k) by simp [fchg])
        obtain ⟨fn, tmps, assign, body, hy, hR⟩ := (hY _ ((k : Int), fd fs k) (wr.alloc (.cells #[.string (fd fs k).1.1, .int .i64 (fd fs k).2] 66)) (unhide hok k _ hlt) (hJ hJs bA) hlen).mono
            (R' := fun e W' => e = .returned (.bool true) ∧ Hid (J (fTo false ⟨ck, ct, cf, co, dk, dn, ds⟩ fs k ++ [((k : Int), fd fs k)]) W' ∧ Keep (fun k => k < n₀ ∨ k = Bt ∨ k = Bc) (wr.alloc (.cells #[.string (fd fs k).1.1, .int .i64 (fd fs k).2] 66)) W'))
            (fun e W' h => ⟨h.1, hide h.2⟩)
        replace hsucc := hide hsucc
        replace bA := hide bA
        replace bS := hide bS
        replace bT := hide bT
        gi_wp2
        refine hR.mono ?_
        rintro e W3 ⟨rfl, hpost⟩
        clear hR hy
        gi_wp2
        obtain ⟨hJ3, hk3⟩ := unhide hpost
        go_roundw
        case rel => exact ⟨k + 1, by omega, by go_num, by rw [unhide hsucc]; simpa [unhide HS] using hJ3, (hkp.on (unhide bA)).trans hk3⟩
        case measure => simp [intOf]; omega
      · cases hq : ((fd fs k).1.1.toList == cf.1.toList)
        · have HS := hide (show fchg true ⟨ck, ct, cf, co, dk, dn, ds⟩ (fd fs k) = some (fd fs k) by simp [fchg, hq])
          obtain ⟨fn, tmps, assign, body, hy, hR⟩ := (hY _ ((k : Int), fd fs k) (wr.alloc (.cells #[.string (fd fs k).1.1, .int .i64 (fd fs k).2] 66)) (unhide hok k _ hlt) (hJ hJs bA) hlen).mono
              (R' := fun e W' => e = .returned (.bool true) ∧ Hid (J (fTo true ⟨ck, ct, cf, co, dk, dn, ds⟩ fs k ++ [((k : Int), fd fs k)]) W' ∧ Keep (fun k => k < n₀ ∨ k = Bt ∨ k = Bc) (wr.alloc (.cells #[.string (fd fs k).1.1, .int .i64 (fd fs k).2] 66)) W'))
              (fun e W' h => ⟨h.1, hide h.2⟩)
          replace hsucc := hide hsucc
          replace bA := hide bA
          replace bS := hide bS
          replace bT := hide bT
          gi_wp2
          refine hR.mono ?_
          rintro e W3 ⟨rfl, hpost⟩
          clear hR hy
          gi_wp2
          obtain ⟨hJ3, hk3⟩ := unhide hpost
          go_roundw
          case rel => exact ⟨k + 1, by omega, by go_num, by rw [unhide hsucc]; simpa [unhide HS] using hJ3, (hkp.on (unhide bA)).trans hk3⟩
          case measure => simp [intOf]; omega
        · by_cases h2 : ck = 2
          · subst h2
            have HS := hide (show fchg true ⟨2, ct, cf, co, dk, dn, ds⟩ (fd fs k) = none by simp [fchg, hq])
            replace hsucc := hide hsucc
            replace bA := hide bA
            replace bS := hide bS
            replace bT := hide bT
            gi_wp2
            go_roundw
            case rel => exact ⟨k + 1, by omega, by go_num, by rw [unhide hsucc]; simpa [unhide HS] using hJ hJs (unhide bA), hkp.on (unhide bA)⟩
            case measure => simp [intOf]; omega
          · have h2' : (ck == 2) = false := by simp [h2]
            by_cases h3 : ck = 3
            · subst h3
              clear h2 h2'
              have HS := hide (show fchg true ⟨3, ct, cf, co, dk, dn, ds⟩ (fd fs k) = some (co, (fd fs k).2) by simp [fchg, hq])
              obtain ⟨fn, tmps, assign, body, hy, hR⟩ := (hY _ ((k : Int), (co, (fd fs k).2)) (wr.alloc (.cells #[.string co.1, .int .i64 (fd fs k).2] 66)) (unhide hok k _ hlt) (hJ hJs bS) hlen).mono
                  (R' := fun e W' => e = .returned (.bool true) ∧ Hid (J (fTo true ⟨3, ct, cf, co, dk, dn, ds⟩ fs k ++ [((k : Int), (co, (fd fs k).2))]) W' ∧ Keep (fun k => k < n₀ ∨ k = Bt ∨ k = Bc) (wr.alloc (.cells #[.string co.1, .int .i64 (fd fs k).2] 66)) W'))
                  (fun e W' h => ⟨h.1, hide h.2⟩)
              replace hsucc := hide hsucc
              replace bA := hide bA
              replace bS := hide bS
              replace bT := hide bT
              gi_wp2
              refine hR.mono ?_
              rintro e W3 ⟨rfl, hpost⟩
              clear hR hy
              gi_wp2
              obtain ⟨hJ3, hk3⟩ := unhide hpost
              go_roundw
              case rel => exact ⟨k + 1, by omega, by go_num, by rw [unhide hsucc]; simpa [unhide HS] using hJ3, (hkp.on (unhide bS)).trans hk3⟩
              case measure => simp [intOf]; omega
            · have h3' : (ck == 3) = false := by simp [h3]
              by_cases h4 : ck = 4
              · subst h4
                clear h2 h2' h3 h3'
                have HS := hide (show fchg true ⟨4, ct, cf, co, dk, dn, ds⟩ (fd fs k) = some ((fd fs k).1, 1) by simp [fchg, hq])
                obtain ⟨fn, tmps, assign, body, hy, hR⟩ := (hY _ ((k : Int), ((fd fs k).1, (1 : Int))) (wr.alloc (.cells #[.string (fd fs k).1.1, .int .i64 1] 66)) (unhide hok k _ hlt) (hJ hJs bT) hlen).mono
                    (R' := fun e W' => e = .returned (.bool true) ∧ Hid (J (fTo true ⟨4, ct, cf, co, dk, dn, ds⟩ fs k ++ [((k : Int), ((fd fs k).1, (1 : Int)))]) W' ∧ Keep (fun k => k < n₀ ∨ k = Bt ∨ k = Bc) (wr.alloc (.cells #[.string (fd fs k).1.1, .int .i64 1] 66)) W'))
                    (fun e W' h => ⟨h.1, hide h.2⟩)
                replace hsucc := hide hsucc
                replace bA := hide bA
                replace bS := hide bS
                replace bT := hide bT
                gi_wp2
                refine hR.mono ?_
                rintro e W3 ⟨rfl, hpost⟩
                clear hR hy
                gi_wp2
                obtain ⟨hJ3, hk3⟩ := unhide hpost
                go_roundw
                case rel => exact ⟨k + 1, by omega, by go_num, by rw [unhide hsucc]; simpa [unhide HS] using hJ3, (hkp.on (unhide bT)).trans hk3⟩
                case measure => simp [intOf]; omega
              · have h4' : (ck == 4) = false := by simp [h4]
                have HS := hide (show fchg true ⟨ck, ct, cf, co, dk, dn, ds⟩ (fd fs k) = some (fd fs k) by simp [fchg, hq, h2, h3, h4])
                clear h2 h3 h4
                obtain ⟨fn, tmps, assign, body, hy, hR⟩ := (hY _ ((k : Int), fd fs k) (wr.alloc (.cells #[.string (fd fs k).1.1, .int .i64 (fd fs k).2] 66)) (unhide hok k _ hlt) (hJ hJs bA) hlen).mono
                    (R' := fun e W' => e = .returned (.bool true) ∧ Hid (J (fTo true ⟨ck, ct, cf, co, dk, dn, ds⟩ fs k ++ [((k : Int), fd fs k)]) W' ∧ Keep (fun k => k < n₀ ∨ k = Bt ∨ k = Bc) (wr.alloc (.cells #[.string (fd fs k).1.1, .int .i64 (fd fs k).2] 66)) W'))
                    (fun e W' h => ⟨h.1, hide h.2⟩)
                replace hsucc := hide hsucc
                replace bA := hide bA
                replace bS := hide bS
                replace bT := hide bT
                gi_wp2
                refine hR.mono ?_
                rintro e W3 ⟨rfl, hpost⟩
                clear hR hy
                gi_wp2
                obtain ⟨hJ3, hk3⟩ := unhide hpost
                go_roundw
                case rel => exact ⟨k + 1, by omega, by go_num, by rw [unhide hsucc]; simpa [unhide HS] using hJ3, (hkp.on (unhide bA)).trans hk3⟩
                case measure => simp [intOf]; omega
    · have hke : k = fs.length := by omega
      subst hke
      have hlen : (fTo mine ⟨ck, ct, cf, co, dk, dn, ds⟩ fs fs.length).length < fs.length + 1 := by have := fTo_len mine ⟨ck, ct, cf, co, dk, dn, ds⟩ fs fs.length; omega
      by_cases hadd : mine = true ∧ ck = 1
      · obtain ⟨rfl, rfl⟩ := hadd
        have HA := hide (show fAll true ⟨1, ct, cf, co, dk, dn, ds⟩ fs = fTo true ⟨1, ct, cf, co, dk, dn, ds⟩ fs fs.length ++ [((-1 : Int), (cf, dk))] by simp [fAll])
        obtain ⟨fn, tmps, assign, body, hy, hR⟩ := (hY _ ((-1 : Int), (cf, dk)) wr (unhide hok') hJs hlen).mono
            (R' := fun e W' => e = .returned (.bool true) ∧ Hid (J (fTo true ⟨1, ct, cf, co, dk, dn, ds⟩ fs fs.length ++ [((-1 : Int), (cf, dk))]) W' ∧ Keep (fun k => k < n₀ ∨ k = Bt ∨ k = Bc) wr W'))
            (fun e W' h => ⟨h.1, hide h.2⟩)
        gi_wp2
        refine hR.mono ?_
        rintro e W3 ⟨rfl, hpost⟩
        clear hR hy
        gi_wp2
        go_end0
        exact ⟨⟨_, rfl⟩, by rw [unhide HA]; exact (unhide hpost).1⟩
      · have HA := hide (show fAll mine ⟨ck, ct, cf, co, dk, dn, ds⟩ fs = fTo mine ⟨ck, ct, cf, co, dk, dn, ds⟩ fs fs.length by
            simp only [fAll]
            rw [if_neg (by simpa using hadd)]; simp)
        cases mine
        · gi_wp2
          go_end0
          exact ⟨⟨_, rfl⟩, by rw [unhide HA]; exact hJs⟩
        · have h1' : (ck == 1) = false := by simp at hadd; simp [hadd]
          clear hadd
          gi_wp2
          go_end0
          exact ⟨⟨_, rfl⟩, by rw [unhide HA]; exact hJs⟩

end Go.Proofs.YtcjpaldijngnpaaGreatDoor
