/-
  The walk of ChainParts: true for every schema, row of changes, event and number, in whatever world where the library's variable stands as its text lays it; nothing that lay is turned.
-/
import Derived.Test.YtcjpaldijngnpaaGreatDoorLawKnown
import Derived.Test.YtcjpaldijngnpaaGreatDoorAs
import Derived.Test.YtcjpaldijngnpaaGreatDoorRefIs
import Derived.Test.YtcjpaldijngnpaaGreatDoorRefEv
import Derived.Test.YtcjpaldijngnpaaGreatDoorRefSch
namespace Go.Proofs.YtcjpaldijngnpaaGreatDoor
open Go.RowKit Go.Shelf

theorem new_got {n : Nat} {ts : List Ty} {ls : List Ch} {e : Ending} {W : World} (hS : Sch ts) (h0 : addAll ts [] ls = 0) (h : Hid ((¬ Sch ts ∧ NewLeft 10 n ts ls e W) ∨ (Sch ts ∧ NewLeft (addAll ts [] ls) n ts ls e W))) :
    ∃ (Bp : Nat) (a' ac : Option Addr) (cap capc : Nat), e = .returned (.tuple #[.pointer (some ⟨Bp, 0, none⟩), .nilIface]) ∧ n ≤ Bp ∧ IsCh W.heap.size W Bp a' ac cap capc ts ls := by
  rcases unhide h with ⟨hno, -⟩ | ⟨-, hN2⟩
  · exact absurd hS hno
  rw [h0] at hN2
  rcases hN2 with ⟨-, Bp, a', ac, cap, capc, e, hBp, -, C⟩ | ⟨h, -⟩
  · exact ⟨Bp, a', ac, cap, capc, e, hBp, C⟩
  · exact absurd rfl h
theorem new_no {n : Nat} {ts : List Ty} {ls : List Ch} {e : Ending} {W : World} (hS : ¬ Sch ts) (h : Hid ((¬ Sch ts ∧ NewLeft 10 n ts ls e W) ∨ (Sch ts ∧ NewLeft (addAll ts [] ls) n ts ls e W))) : e = .returned (.tuple #[.pointer none, errV 10]) := by
  rcases unhide h with ⟨-, h0⟩ | ⟨hno, -⟩
  · rcases h0 with ⟨h0, -⟩ | ⟨-, h0⟩
    · exact absurd h0 (by decide)
    · exact h0
  · exact absurd hno hS
theorem add_any {Bp cap capc : Nat} {a ac : Option Addr} {ts : List Ty} {cs : List Ch} {c : Ch} {W : World} (h : AddLeft (addR ts cs c) Bp cap capc a ac ts cs c W) (h20 : cs.length ≤ 20) : ∃ cs' ac' capc', cs'.length ≤ 20 ∧ IsCh W.heap.size W Bp a ac' cap capc' ts cs' := by
  unfold AddLeft at h
  split at h
  · next h0 =>
    obtain ⟨ac', capc', C⟩ := h
    exact ⟨_, ac', capc', by have := addR_len h0; rw [List.length_append, List.length_singleton]; omega, C⟩
  · exact ⟨cs, ac, capc, h20, h⟩
theorem spans_nat {cs : List Ch} {k m : Nat} (hk : k ≤ m) (hm : m ≤ cs.length) : spansB cs k m = true := by
  unfold spansB
  simp only [Bool.and_eq_true, decide_eq_true_eq]
  omega
theorem mv_good {ts : List Ty} {cs : List Ch} {x : Ev} {f g : Int} {k m j : Nat} (hf : f = k) (hg : g = m) (hj : m = k + j) (hm : m ≤ cs.length) (hi : isE (vers ts cs k) x = 0) {base : Nat} {e : Ending} {W : World} (h : MoveAns ts cs x f g base e W) :
    ∃ a' c', e = .returned (.tuple #[.agg #[.string x.ty.1, .int .i64 x.ts, .slice a' (mvK ts cs k x j).vs.length c'], .nilIface]) ∧ Vals W.heap.size W a' (mvK ts cs k x j).vs := by
  subst hf hg
  rcases h with ⟨h, -⟩ | ⟨-, h, -⟩ | ⟨-, -, a', c', e, ho⟩
  · rw [spans_nat (by omega) hm] at h; cases h
  · exact absurd hi h
  · rw [Int.toNat_natCast, Int.toNat_natCast, show m - k = j by omega] at e ho
    obtain ⟨a2, c2, e2, hV, -⟩ := vals_of_owns ho
    simp only [Value.slice.injEq, true_and] at e2
    rw [← e2.1] at hV
    exact ⟨a', c', e, hV⟩
theorem mv_bad {ts : List Ty} {cs : List Ch} {x : Ev} {f g : Int} {k m : Nat} (hf : f = k) (hg : g = m) (hj : k ≤ m) (hm : m ≤ cs.length) (hi : isE (vers ts cs k) x ≠ 0) {base : Nat} {e : Ending} {W : World} (h : MoveAns ts cs x f g base e W) :
    e = .returned (.tuple #[noEv, errV (isE (vers ts cs k) x)]) := by
  subst hf hg
  rcases h with ⟨h, -⟩ | ⟨-, -, e⟩ | ⟨-, h, -⟩
  · rw [spans_nat (by omega) hm] at h; cases h
  · rw [Int.toNat_natCast, errE_no hi] at e
    exact e
  · exact absurd h hi
theorem at_good {ts : List Ty} {cs : List Ch} {v : Int} {m : Nat} (hv : v = m) (hm : m ≤ cs.length) (hS : Sch ts) {base : Nat} {e : Ending} {W : World} (h : AtAns ts cs v base e W) :
    ∃ a' c', e = .returned (.tuple #[.agg #[.slice a' (vers ts cs m).length c'], .bool true]) ∧ Typs W.heap.size W a' (vers ts cs m) := by
  subst hv
  rcases h with ⟨k, a', c', hk, -, e, hO⟩ | ⟨h, -⟩
  · obtain rfl : k = m := by omega
    exact ⟨a', c', e, hO.typs (sch_max (sch_vers hS cs k))⟩
  · omega
theorem movE_no {ts : List Ty} {c : Ch} (x : Ev) (h : refE ts c ≠ 0) : movE ts c x = x := by
  unfold movE
  split
  · rfl
  · rw [if_neg (fun h' => h h'.1)]
theorem isE_app {ts : List Ty} {c : Ch} {x : Ev} (hS : Sch ts) (hi : isE ts x = 0) : isE (appT ts c) (movE ts c x) = 0 := by
  unfold appT
  split
  · next h => exact isE_new hS h hi
  · next h => rw [movE_no x h]; exact hi
/-- An event of a version is, moved, one of the later version. -/
theorem isE_mv {ts : List Ty} (hS : Sch ts) (cs : List Ch) (k : Nat) {x : Ev} (hi : isE (vers ts cs k) x = 0) : ∀ j, k + j ≤ cs.length → isE (vers ts cs (k + j)) (mvK ts cs k x j) = 0
  | 0, _ => hi
  | j + 1, h => by
    rw [← Nat.add_assoc, vers_succ ts cs (by omega), mvK]
    exact isE_app (sch_vers hS cs _) (isE_mv hS cs k hi j (by omega))
/-- Moved by parts. -/
theorem mvK_add (ts : List Ty) (cs : List Ch) (k i : Nat) (x : Ev) : ∀ j, mvK ts cs (k + i) (mvK ts cs k x i) j = mvK ts cs k x (i + j)
  | 0 => rfl
  | j + 1 => by rw [mvK, mvK_add ts cs k i x j, ← Nat.add_assoc, mvK, Nat.add_assoc]
theorem zip_same : ∀ (l : List Vl) (p : Vl × Vl), p ∈ l.zip l → p.1 = p.2
  | [], _, h => by cases h
  | v :: l, p, h => by
    rcases List.mem_cons.1 h with rfl | h
    · rfl
    · exact zip_same l p h
theorem samesV_self (vs : List Vl) : samesV vs vs = true := by
  unfold samesV
  rw [List.all_eq_true]
  intro p hp
  have := zip_same vs p hp
  simp [sameV, this]
theorem sameE_self (x : Ev) : sameE x x = true := by simp [sameE, sameVs, samesV_self]
theorem mv_eta (ts : List Ty) (cs : List Ch) (k j : Nat) (x : Ev) : (⟨x.ty, x.ts, (mvK ts cs k x j).vs⟩ : Ev) = mvK ts cs k x j := by
  rw [← mvK_ty ts cs k x j, ← mvK_ts ts cs k x j]

end Go.Proofs.YtcjpaldijngnpaaGreatDoor
