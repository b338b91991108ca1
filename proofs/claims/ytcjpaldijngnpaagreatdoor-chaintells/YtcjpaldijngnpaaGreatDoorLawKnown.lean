/-
  The schemas, changes and events that the laws of layer 5 make, and what the chain's functions tell of them, reckoned.
  What the head of every law of layer 5 answers: true, in whatever world; nothing that lay is turned.
-/
import Derived.Test.YtcjpaldijngnpaaGreatDoorChBack
import Derived.Test.YtcjpaldijngnpaaGreatDoorChMove
import Derived.Test.YtcjpaldijngnpaaGreatDoorChNew
import Derived.Test.YtcjpaldijngnpaaGreatDoorErrIs
import Derived.Test.YtcjpaldijngnpaaGreatDoorChHas
namespace Go.Proofs.YtcjpaldijngnpaaGreatDoor
open Go.RowKit Go.Shelf

def t1 (c : UInt8) : Txt := ⟨⟨#[c]⟩, show 1 ≤ maxLen by decide⟩
def t2 (c d : UInt8) : Txt := ⟨⟨#[c, d]⟩, show 2 ≤ maxLen by decide⟩

/-! ### the head of every law -/
def tsK : List Ty := [(t1 97, [(t1 120, 1)])]
def cK1 : Ch := ⟨3, t1 97, t1 120, t1 121, 0, 0, noTxt⟩
def cK2 : Ch := ⟨1, t1 97, t1 122, noTxt, 3, 0, noTxt⟩
def csK : List Ch := [cK1, cK2]
def evK : Ev := ⟨t1 97, 0, [(1, 2, noTxt)]⟩
theorem schK : Sch tsK := (isS_sch tsK).1 (by kernel_rfl)
theorem addAllK : addAll tsK [] [cK1] = 0 := by kernel_rfl
theorem addK : addR tsK [cK1] cK2 = 0 := by kernel_rfl
theorem spanK : spansB csK 0 2 = true := by kernel_rfl
theorem spanK9 : spansB csK 0 9 = false := by kernel_rfl
theorem isEK : isE tsK evK = 0 := by kernel_rfl
theorem mvK2 : (mvK tsK csK 0 evK 2).vs.length = 2 := by kernel_rfl
theorem backKy : backA tsK csK (t1 97) (t1 121) 0 2 = .tuple #[.string ⟨#[120]⟩, .bool true] := by kernel_rfl
theorem backKz : backA tsK csK (t1 97) (t1 122) 0 2 = .tuple #[.string ⟨#[]⟩, .bool false] := by kernel_rfl
theorem versK1 : (vers tsK csK 1).length = 1 := by kernel_rfl

/-! ### as many changes as may be -/
def tsM : List Ty := [(t1 97, [])]
def cM0 : Ch := ⟨1, t1 97, t1 102, noTxt, 1, 0, noTxt⟩
def cM1 : Ch := ⟨2, t1 97, t1 102, noTxt, 0, 0, noTxt⟩
def xM (i : Nat) : Ch := if i % 2 = 1 then cM1 else cM0
def csM (k : Nat) : List Ch := (List.range (min k 20)).map xM
theorem schM : Sch tsM := (isS_sch tsM).1 (by kernel_rfl)
theorem csM_len (k : Nat) : (csM k).length = min k 20 := by simp [csM]
theorem csM_succ {k : Nat} (h : k < 20) : csM (k + 1) = csM k ++ [xM k] := by
  unfold csM
  rw [show min (k + 1) 20 = k + 1 by omega, show min k 20 = k by omega, List.range_succ, List.map_append]
  rfl
theorem csM_stay {k : Nat} (h : 20 ≤ k) : csM (k + 1) = csM k := by
  unfold csM
  rw [show min (k + 1) 20 = 20 by omega, show min k 20 = 20 by omega]
theorem addM_all : ((List.range 20).all fun k => addR tsM (csM k) (xM k) == 0) = true := by kernel_rfl
theorem addM_ok {k : Nat} (h : k < 20) : addR tsM (csM k) (xM k) = 0 := by
  have := List.all_eq_true.1 addM_all k (List.mem_range.2 h)
  simpa using this
theorem addM_no {k : Nat} (h : 20 ≤ k) (c : Ch) : addR tsM (csM k) c = 12 := by
  unfold addR
  rw [csM_len, if_pos (by omega)]

/-! ### a field renamed again and again -/
def tsB : List Ty := [(t1 97, []), (t1 98, [(t1 120, 1)])]
def fB (i : Nat) : Txt := t2 102 (UInt8.ofNat (97 + i))
def cB0 : Ch := ⟨1, t1 97, fB 0, noTxt, 1, 3, noTxt⟩
def cBa (i : Nat) : Ch := ⟨3, t1 97, fB i, fB (i + 1), 0, 0, noTxt⟩
def cBx : Ch := ⟨3, t1 98, t1 120, t1 121, 0, 0, noTxt⟩
def cBy : Ch := ⟨3, t1 98, t1 121, t1 120, 0, 0, noTxt⟩
def csB : Nat → List Ch
  | 0 => [cB0]
  | i + 1 => csB i ++ [cBa i] ++ [cBx] ++ [cBy]
theorem schB : Sch tsB := (isS_sch tsB).1 (by kernel_rfl)
theorem csB_len (i : Nat) : (csB i).length = 3 * i + 1 := by
  induction i with
  | zero => rfl
  | succ i ih => simp only [csB, List.length_append, ih, List.length_cons, List.length_nil]; omega
theorem addB0 : addR tsB [] cB0 = 0 := by kernel_rfl
theorem addB_all : ((List.range 6).all fun i => addR tsB (csB i) (cBa i) == 0 && addR tsB (csB i ++ [cBa i]) cBx == 0 && addR tsB (csB i ++ [cBa i] ++ [cBx]) cBy == 0) = true := by kernel_rfl
theorem addB_ok {i : Nat} (h : i < 6) : addR tsB (csB i) (cBa i) = 0 ∧ addR tsB (csB i ++ [cBa i]) cBx = 0 ∧ addR tsB (csB i ++ [cBa i] ++ [cBx]) cBy = 0 := by
  have := List.all_eq_true.1 addB_all i (List.mem_range.2 h)
  simp only [Bool.and_eq_true, beq_iff_eq] at this
  exact ⟨this.1.1, this.1.2, this.2⟩
theorem addB_six : addR tsB (csB 6) (cBa 6) = 0 := by kernel_rfl
theorem addB_no : addR tsB (csB 6 ++ [cBa 6]) cBx = 12 := by kernel_rfl

/-- The name that the field bore. -/
def wasB (v : Nat) : Nat := if (v - 1) % 3 = 0 then (v - 1) / 3 else (v + 1) / 3
/-- The answer, as a text and a truth. -/
def ansB (v : Value) : Option (List UInt8 × Bool) := match v with
  | .tuple #[.string s, .bool b] => some (s.data.toList, b)
  | _ => none
theorem backV_ans (x : Option Txt) : ansB (backV x) = match x with | none => some ([], false) | some s => some (s.1.data.toList, true) := by
  cases x <;> rfl
theorem backB_all : ((List.range 6).all fun k => (List.range (3 * (k + 1) + 2)).all fun v => ansB (backA tsB (csB (k + 1)) (t1 97) (fB (k + 1)) v (3 * (k + 1) + 1 : Nat)) == if v = 0 then some ([], false) else some ([102, UInt8.ofNat (97 + wasB v)], true)) = true := by kernel_rfl
theorem backX_all : ((List.range 6).all fun k => (List.range (3 * (k + 1) + 1)).all fun v => let r := ansB (backA tsB (csB (k + 1)) (t1 98) (t1 120) (v + 1 : Nat) (3 * (k + 1) + 1 : Nat)); r == some ([120], true) || r == some ([121], true)) = true := by kernel_rfl

end Go.Proofs.YtcjpaldijngnpaaGreatDoor

namespace Go.Proofs.YtcjpaldijngnpaaGreatDoor
open Go.RowKit Go.Shelf

theorem chs_one {W : World} {b : Nat} {c : Ch} (h : Box W b 42 c.cs) : Chs W.heap.size W (some ⟨b, 0, none⟩) [c] :=
  .inr ⟨b, 0, rfl, h.lt, fun j hj i u hu => by
    obtain rfl : j = 0 := by simp only [List.length_singleton] at hj; omega
    have := h.at i hu
    simpa using this⟩
theorem moveK {base : Nat} {e : Ending} {W : World} (h : MoveAns tsK csK evK 0 2 base e W) : ∃ a' c', e = .returned (.tuple #[.agg #[.string ⟨#[97]⟩, .int .i64 0, .slice a' 2 c'], .nilIface]) := by
  rcases h with ⟨h, -⟩ | ⟨-, h, -⟩ | ⟨-, -, a3, c3, rfl, -⟩
  · rw [spanK] at h; cases h
  · exact absurd isEK h
  · have e2 : (mvK tsK csK (0 : Int).toNat evK ((2 : Int).toNat - (0 : Int).toNat)).vs.length = 2 := mvK2
    rw [e2]
    exact ⟨a3, c3, rfl⟩
theorem moveK9 {x : Ev} {base : Nat} {e : Ending} {W : World} (h : MoveAns tsK csK x 0 9 base e W) : e = .returned (.tuple #[noEv, errV 20]) := by
  rcases h with ⟨-, h⟩ | ⟨h, -⟩ | ⟨h, -⟩
  · exact h
  · rw [spanK9] at h; cases h
  · rw [spanK9] at h; cases h
theorem atK {base : Nat} {e : Ending} {W : World} (h : AtAns tsK csK 1 base e W) : ∃ a' c', e = .returned (.tuple #[.agg #[.slice a' 1 c'], .bool true]) := by
  rcases h with ⟨k, a', c', hk, -, rfl, -⟩ | ⟨h, -⟩
  · obtain rfl : k = 1 := by omega
    rw [versK1]
    exact ⟨a', c', rfl⟩
  · exfalso
    simp only [show csK.length = 2 from rfl] at h
    omega

set_option maxRecDepth 100000 in
set_option maxHeartbeats 4000000 in
theorem known_c (w : World) : Calls Tryz.prog 6 #[] w fun e w' => e = .returned (.bool true) ∧ Below w.heap.size w w' := by
  obtain ⟨W0, hW0⟩ : ∃ W0, W0 = ((w.alloc (.cells #[.string ⟨#[120]⟩, .int .i64 1] 66)).alloc (.cells #[.string ⟨#[97]⟩, .slice (some ⟨w.heap.size, 0, none⟩) 1 1] 69)).alloc (.cells #[.slice (some ⟨w.heap.size + 1, 0, none⟩) 1 1] 24) := ⟨_, rfl⟩
  have b0 : Below w.heap.size w W0 := by rw [hW0]; exact (((Below.refl _ _).alloc (Nat.le_refl _) _).alloc (by simp) _).alloc (by simp; omega) _
  have x0 : Box W0 w.heap.size 66 #[.string ⟨#[120]⟩, .int .i64 1] := by rw [hW0]; exact ((Box.new w 66 #[.string ⟨#[120]⟩, .int .i64 1]).alloc _).alloc _
  have x1 : Box W0 (w.heap.size + 1) 69 #[.string ⟨#[97]⟩, .slice (some ⟨w.heap.size, 0, none⟩) 1 1] := by
    have := Box.new (w.alloc (.cells #[.string ⟨#[120]⟩, .int .i64 1] 66)) 69 #[.string ⟨#[97]⟩, .slice (some ⟨w.heap.size, 0, none⟩) 1 1]
    simp only [World.size_alloc] at this
    rw [hW0]; exact this.alloc _
  have x2 : Box W0 (w.heap.size + 1 + 1) 24 #[.slice (some ⟨w.heap.size + 1, 0, none⟩) 1 1] := by
    have := Box.new ((w.alloc (.cells #[.string ⟨#[120]⟩, .int .i64 1] 66)).alloc (.cells #[.string ⟨#[97]⟩, .slice (some ⟨w.heap.size, 0, none⟩) 1 1] 69)) 24 #[.slice (some ⟨w.heap.size + 1, 0, none⟩) 1 1]
    simp only [World.size_alloc] at this
    rw [hW0]; exact this
  have T0 : Typs W0.heap.size W0 (some ⟨w.heap.size + 1, 0, none⟩) tsK := by
    refine .inr ⟨w.heap.size + 1, 0, rfl, x1.lt, fun j hj => ?_⟩
    match j, hj with
    | 0, _ =>
      refine ⟨x1.at 0 rfl, some ⟨w.heap.size, 0, none⟩, 1, x1.at 1 rfl, .inr ⟨w.heap.size, 0, rfl, x0.lt, fun j hj => ?_⟩, by decide⟩
      match j, hj with
      | 0, _ => exact ⟨x0.at 0 rfl, x0.at 1 rfl⟩
  have b1 : Below W0.heap.size W0 (W0.alloc (.cells cK1.cs 42)) := (Below.refl _ _).alloc (Nat.le_refl _) _
  have cN := hide (new_c _ _ 1 1 tsK [cK1] (by decide) (by decide) (W0.alloc (.cells cK1.cs 42)) (T0.on b1) (chs_one (Box.new W0 42 cK1.cs)))
  go_enter Tryz.func6, Tryz.ntmps6
  go_upto_region 2 with fail
  rw [← hW0]
  clear hW0 T0
  have hc := x2.one.1
  go_wp2_with fail
  refine (unhide cN).mono ?_
  rintro e w1 ⟨hb1, hN⟩
  clear cN hc
  have bw1 := (b0.trans (b1.mono b0.size)).trans (hb1.mono (b0.trans (b1.mono b0.size)).size)
  have hsz := (b0.trans (b1.mono b0.size)).size
  rcases unhide hN with ⟨hno, -⟩ | ⟨-, hN2⟩
  · exact absurd schK hno
  rw [addAllK] at hN2
  rcases hN2 with ⟨-, Bp, a', ac, cap, capc, rfl, hBp, -, C1⟩ | ⟨h, -⟩
  case inr => exact absurd rfl h
  clear hN
  have cA := hide (add_c Bp cap capc a' ac tsK [cK1] cK2 schK (by decide) w1 C1)
  rw [addK, errE_zero] at cA
  replace hBp := Nat.le_trans hsz hBp
  clear hsz b1 b0 x0 x1 x2 hb1
  go_wp2_with fail
  refine (unhide cA).mono ?_
  rintro e w2 ⟨rfl, hleft, -, hbel⟩
  clear cA
  unfold AddLeft at hleft
  rw [if_pos rfl] at hleft
  obtain ⟨ac2, capc2, C2'⟩ := hleft
  have C2 : IsCh w2.heap.size w2 Bp a' ac2 cap capc2 tsK csK := C2'
  clear C2' C1
  have bw2 := bw1.trans (hbel w.heap.size hBp)
  clear hbel hBp bw1
  have bA : Below w2.heap.size w2 (w2.alloc (.cells #[.int .i64 1, .int .i64 2, .string ⟨#[]⟩] 40)) := (Below.refl _ _).alloc (Nat.le_refl _) _
  have xv := Box.new w2 40 #[.int .i64 1, .int .i64 2, .string ⟨#[]⟩]
  have V2 : Vals (w2.alloc (.cells #[.int .i64 1, .int .i64 2, .string ⟨#[]⟩] 40)).heap.size (w2.alloc (.cells #[.int .i64 1, .int .i64 2, .string ⟨#[]⟩] 40)) (some ⟨w2.heap.size, 0, none⟩) evK.vs := by
    refine .inr ⟨w2.heap.size, 0, rfl, xv.lt, fun j hj => ?_⟩
    match j, hj with
    | 0, _ => exact ⟨xv.at 0 rfl, xv.at 1 rfl, xv.at 2 rfl⟩
  have C2a := (C2.on bA).mono bA.size
  have cM := hide (chMove_c Bp cap capc2 a' ac2 tsK csK (t1 97) 0 evK.vs (some ⟨w2.heap.size, 0, none⟩) 1 0 2 schK (by decide) (by decide) _ C2a V2)
  clear V2 xv
  go_wp2_with fail
  refine (unhide cM).mono ?_
  rintro e w3 ⟨hm, hb3⟩
  clear cM
  obtain ⟨a3, c3, rfl⟩ := moveK hm
  clear hm
  have bw3 := (bw2.trans (bA.mono bw2.size)).trans (hb3.mono (bw2.trans (bA.mono bw2.size)).size)
  have C3 := (C2a.on hb3).mono hb3.size
  clear C2a C2 bA bw2 hb3
  have bB : Below w3.heap.size w3 (w3.alloc (.cells #[.string ⟨#[97]⟩, .int .i64 0, .slice a3 2 c3] 28)) := (Below.refl _ _).alloc (Nat.le_refl _) _
  have xm := Box.new w3 28 #[.string ⟨#[97]⟩, .int .i64 0, .slice a3 2 c3]
  have C3a := (C3.on bB).mono bB.size
  have cB := hide (chBack_c Bp cap capc2 a' ac2 tsK csK (t1 97) (t1 121) 0 2 schK (by decide) _ C3a)
  rw [backKy] at cB
  go_wp2_with fail
  refine (unhide cB).mono ?_
  rintro e w4 ⟨rfl, hb4⟩
  clear cB
  have bw3a := bw3.trans (bB.mono bw3.size)
  have bw4 := bw3a.trans (hb4.mono bw3a.size)
  have C4 := (C3a.on hb4).mono hb4.size
  have xm4 := xm.on hb4 xm.lt
  clear C3a C3 bB bw3 bw3a hb4 xm
  have cB := hide (chBack_c Bp cap capc2 a' ac2 tsK csK (t1 97) (t1 122) 0 2 schK (by decide) _ C4)
  rw [backKz] at cB
  go_wp2_with fail
  refine (unhide cB).mono ?_
  rintro e w5 ⟨rfl, hb5⟩
  clear cB
  have bw5 := bw4.trans (hb5.mono bw4.size)
  have C5 := (C4.on hb5).mono hb5.size
  have xm5 := xm4.on hb5 xm4.lt
  clear C4 bw4 hb5 xm4
  have cM := hide (chMove_c Bp cap capc2 a' ac2 tsK csK noTxt 0 [] none 0 0 9 schK (by decide) (by decide) _ C5 (.inl rfl))
  go_wp2_with fail
  refine (unhide cM).mono ?_
  rintro e w6 ⟨hm, hb6⟩
  clear cM
  obtain rfl := moveK9 hm
  clear hm
  have bw6 := bw5.trans (hb6.mono bw5.size)
  have C6 := (C5.on hb6).mono hb6.size
  have xm6 := xm5.on hb6 xm5.lt
  clear C5 bw5 hb6 xm5
  have bC : Below w6.heap.size w6 (w6.alloc (.cells #[.string ⟨#[]⟩, .int .i64 0, .slice none 0 0] 28)) := (Below.refl _ _).alloc (Nat.le_refl _) _
  have C6a := (C6.on bC).mono bC.size
  have cT := hide (at_c Bp cap capc2 a' ac2 tsK csK 1 schK (by decide) _ C6a)
  go_wp2_with fail
  refine (unhide cT).mono ?_
  rintro e w7 ⟨hat, hb7⟩
  clear cT
  obtain ⟨a7, c7, rfl⟩ := atK hat
  clear hat
  have bw6a := bw6.trans (bC.mono bw6.size)
  have bw7 := bw6a.trans (hb7.mono bw6a.size)
  have C7 := (C6a.on hb7).mono hb7.size
  have xm7 := (xm6.on bC xm6.lt).on hb7 (xm6.on bC xm6.lt).lt
  clear C6a C6 bC bw6 bw6a hb7 xm6
  have bD : Below w7.heap.size w7 (w7.alloc (.cells #[.slice a7 1 c7] 24)) := (Below.refl _ _).alloc (Nat.le_refl _) _
  have xt := Box.new w7 24 #[.slice a7 1 c7]
  have C8 := (C7.on bD).mono bD.size
  have xm8 := xm7.on bD xm7.lt
  have bw8 := bw7.trans (bD.mono bw7.size)
  obtain ⟨hm0, hm1, hm2⟩ := xm8.three
  have ht := xt.one.1
  clear C7 bw7 bD xm7 xt xm8
  have cW := hide (now_c Bp cap capc2 a' ac2 tsK csK _ C8)
  go_wp2_with fail
  refine (unhide cW).mono ?_
  rintro e w9 ⟨rfl, rfl⟩
  clear cW
  simp only [show csK.length = 2 from rfl]
  go_wp2_with fail
  refine (errIs_c 20 20 _).mono ?_
  rintro e w9 ⟨rfl, rfl⟩
  have cH := hide (changes_c Bp cap capc2 a' ac2 tsK csK (by decide) _ C8)
  go_wp2_with fail
  refine (unhide cH).mono ?_
  rintro e w10 ⟨a10, c10, rfl, hb10⟩
  clear cH
  simp only [show csK.length = 2 from rfl]
  go_wp2_with fail
  go_ret
  exact ⟨rfl, bw8.trans (hb10.mono bw8.size)⟩

end Go.Proofs.YtcjpaldijngnpaaGreatDoor
