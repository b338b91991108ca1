/-
  What literal of package show gives: the pieces of a value's text.
-/
import Derived.Test.YtfofpenajkaalaaDoorSteps
import Derived.Lib.AppendIntMem
namespace Go.Proofs.YtfofpenajkaalaaDoor
open Go.RowKit Go.Shelf

/-- The package variables on the road: the signs of package show, the library's powers of ten. -/
def signsL : List (List UInt8) := [[], [], [], [43], [45], [42], [61], [33, 61], [60], [60, 61], [65, 78, 68], [79, 82]]
structure Vars (W : World) : Prop where
  size : 4 ≤ W.heap.size
  sg : ∀ i (h : i < signsL.length), W.cell? ⟨0, i, none⟩ = some (.string ⟨signsL[i].toArray⟩)
  tab : Lib.TabIs Tryd.prog W "internal/strconv.uint64pow10" .u64 Lib.pow10Tab
theorem Vars.on {A W : World} (h : Vars A) (hb : Below A.heap.size A W) : Vars W where
  size := Nat.le_trans h.size hb.size
  sg := fun i hi => (hb.cell (p := ⟨0, i, none⟩) (by have := h.size; simp; omega)).trans (h.sg i hi)
  tab := var?_below hb (g := 1) (by kernel_rfl) (by have := h.size; omega) h.tab

set_option maxHeartbeats 1000000 in
theorem truth_c (b : Bool) (w : World) : Calls Tryd.prog 40 #[.bool b] w fun e w' => e = .returned (.string (if b then ⟨#[84, 82, 85, 69]⟩ else ⟨#[70, 65, 76, 83, 69]⟩)) ∧ w' = w := by
  cases b <;>
  · go_enter Tryd.func40, Tryd.ntmps40
    go_wp2_with fail
    go_ret
    exact ⟨rfl, rfl⟩

abbrev quB : ByteArray := ⟨#[34]⟩
/-- The pieces of a value's text. -/
def litP (k n : Int) (s : ByteArray) : List ByteArray :=
  if k = 2 then [quB] ++ escP s.data.toList ++ [quB] else if k = 3 then [if n = 1 then ⟨#[84, 82, 85, 69]⟩ else ⟨#[70, 65, 76, 83, 69]⟩] else [⟨(Lib.itoa n).toArray⟩]

theorem eval_tmp (a : Act) (d : Nat) : a.eval (.tmp d) = a.tmps.getD d undef := rfl

set_option maxRecDepth 100000 in
set_option maxHeartbeats 4000000 in
theorem literal_str (m : Nat) (n : Int) (s : ByteArray) (hs : s.size ≤ 281474976710656) (w : World) (hm : m ≤ w.heap.size) :
    Calls Tryd.prog 20 #[.agg #[.int .i64 2, .int .i64 n, .string s]] w fun e w' => ∃ u, e = .returned u ∧ Pcs m w' u ([quB] ++ escP s.data.toList ++ [quB]) ∧ Below w.heap.size w w' := by
  have hmx : Tryd.prog.follows .mixedOrders = true := by kernel_rfl
  obtain ⟨W0, hW0⟩ : ∃ W0, W0 = w.alloc (.cells #[.int .i64 2, .int .i64 n, .string s] 23) := ⟨_, rfl⟩
  have b0 : Below w.heap.size w W0 := by rw [hW0]; exact (Below.refl _ _).alloc (Nat.le_refl _) _
  have x0 : Box W0 w.heap.size 23 #[.int .i64 2, .int .i64 n, .string s] := by rw [hW0]; exact Box.new _ _ _
  obtain ⟨c0, c1, c2⟩ := x0.three
  go_enter Tryd.func20, Tryd.ntmps20
  go_upto_region 1 with fail
  rw [← hW0]
  clear hW0
  go_upto_region 3 with fail
  refine wp_region_any hmx ?_
  obtain ⟨V, hV⟩ : ∃ V, V = ({ heap := W0.heap, tape := W0.tape, drawn := W0.drawn + 1, os := W0.os, output := W0.output } : World) := ⟨_, rfl⟩
  have bV : Below W0.heap.size W0 V := by rw [hV]; exact (Below.refl _ _).drew
  rw [← hV]
  clear hV
  have xV := x0.on bV x0.lt
  refine wpAny_facts (fun x y => Below x.heap.size x y) (fun x => Below.refl _ _) (fun h k => h.trans (k.mono h.size)) (fun i v w' => (([.row [quB], .pcs [quB], .is (.pointer (some ⟨w.heap.size, 2, none⟩)), .is (.string s), .pcs (escP s.data.toList), .row [quB], .pcs [quB], .parts [[quB], escP s.data.toList, [quB]], .pcs ([[quB], escP s.data.toList, [quB]].flatten), .pcs ([[quB], escP s.data.toList, [quB]].flatten)] : List Fa).getD i .any).ok m v w') (fun i v w' w'' h hb => Fa.on m _ v w' w'' h hb) _ V (by kernel_rfl) (by kernel_rfl) ?hstep ?hdone
  case hstep =>
    rintro listed a w' i oi F hr ho
    have hmw : m ≤ w'.heap.size := Nat.le_trans hm (b0.trans ((bV.trans (F.bel.mono bV.size)).mono b0.size)).size
    have xw := xV.on F.bel xV.lt
    have e1 : a.eval (.tmp 1) = .pointer (some ⟨w.heap.size, 0, none⟩) := (F.old 1 (noDst_spec (by kernel_rfl))).trans rfl
    have hi := (Array.getElem?_eq_some_iff.1 ho).1
    obtain rfl | rfl | rfl | rfl | rfl | rfl | rfl | rfl | rfl | rfl : i = 0 ∨ i = 1 ∨ i = 2 ∨ i = 3 ∨ i = 4 ∨ i = 5 ∨ i = 6 ∨ i = 7 ∨ i = 8 ∨ i = 9 := by simp at hi; omega
    all_goals
      simp only [List.getElem?_toArray, List.getElem?_cons_succ, List.getElem?_cons_zero, Option.some.injEq] at ho
      subst ho
    · exact step_row hmw 1 _ rfl [quB] rfl (by decide) (by decide) (by simp [Act.eval])
    · have d0 := F.got 0 _ 7 rfl (ready_dep hr 0 (by kernel_rfl)) rfl
      exact step_plain hmw (.tmp 7) _ rfl _ d0
    · refine step_read _ ?_
      simp only [execOp, e1]
      go_simp
    · have d2 := F.got 2 _ 9 rfl (ready_dep hr 2 (by kernel_rfl)) rfl
      refine step_read _ ?_
      simp only [execOp, eval_tmp, show a.tmps.getD 9 undef = _ from d2]
      obtain ⟨k0, k1, k2⟩ := xw.three
      go_simp
    · have d3 := F.got 3 _ 10 rfl (ready_dep hr 3 (by kernel_rfl)) rfl
      refine step_call 39 _ _ rfl (enters_of Tryd.func39 (by kernel_rfl) rfl) #[.string s] (by simp [eval_tmp, show a.tmps.getD 10 undef = _ from d3]) (escaped_c m s hs w' hmw)
    · exact step_row hmw 1 _ rfl [quB] rfl (by decide) (by decide) (by simp [Act.eval])
    · have d5 := F.got 5 _ 12 rfl (ready_dep hr 5 (by kernel_rfl)) rfl
      exact step_plain hmw (.tmp 12) _ rfl _ d5
    · have d1 := F.got 1 _ 8 rfl (ready_dep hr 1 (by kernel_rfl)) rfl
      have d4 := F.got 4 _ 11 rfl (ready_dep hr 4 (by kernel_rfl)) rfl
      have d6 := F.got 6 _ 13 rfl (ready_dep hr 6 (by kernel_rfl)) rfl
      exact step_parts hmw 3 _ rfl [a.tmps.getD 8 undef, a.tmps.getD 11 undef, a.tmps.getD 13 undef] _ rfl rfl (by decide) (by decide) (fun j u ps hu hp => by
        match j, hu, hp with
        | 0, hu, hp => cases hu; cases hp; exact d1
        | 1, hu, hp => cases hu; cases hp; exact d4
        | 2, hu, hp => cases hu; cases hp; exact d6
        | j + 3, hu, hp => simp at hu) (by simp [Act.eval])
    · have d7 := F.got 7 _ 14 rfl (ready_dep hr 7 (by kernel_rfl)) rfl
      exact step_all hmw (.tmp 14) _ rfl _ d7
    · have d8 := F.got 8 _ 15 rfl (ready_dep hr 8 (by kernel_rfl)) rfl
      exact step_assign (.tmp 15) (.inl rfl) d8
  case hdone =>
    intro a w' hz hd hb hold hall
    have d9 := hall 9 _ 2 rfl rfl
    rename_i hret
    refine hret a w' ?_
    go_wp2_with fail
    refine bodyPost_ret (results_tmp rfl _ _ _) hd ⟨_, rfl, d9, b0.trans ((bV.trans (hb.mono bV.size)).mono b0.size)⟩

set_option maxRecDepth 100000 in
set_option maxHeartbeats 4000000 in
theorem literal_c (m : Nat) (k n : Int) (s : ByteArray) (h0 : -9223372036854775808 ≤ n) (h1 : n ≤ 9223372036854775807) (hs : k = 2 → s.size ≤ 281474976710656) (w : World) (hm : m ≤ w.heap.size) (hV : Vars w) :
    Calls Tryd.prog 20 #[.agg #[.int .i64 k, .int .i64 n, .string s]] w fun e w' => ∃ u, e = .returned u ∧ Pcs m w' u (litP k n s) ∧ Below w.heap.size w w' := by
  by_cases hk : k = 2
  · subst hk
    exact literal_str m n s (hs rfl) w hm
  obtain ⟨W0, hW0⟩ : ∃ W0, W0 = w.alloc (.cells #[.int .i64 k, .int .i64 n, .string s] 23) := ⟨_, rfl⟩
  have b0 : Below w.heap.size w W0 := by rw [hW0]; exact (Below.refl _ _).alloc (Nat.le_refl _) _
  have x0 : Box W0 w.heap.size 23 #[.int .i64 k, .int .i64 n, .string s] := by rw [hW0]; exact Box.new _ _ _
  obtain ⟨c0, c1, c2⟩ := x0.three
  have e2 : (k == 2) = false := by simp [hk]
  have row : ∀ (W : World) (x : ByteArray), m ≤ W.heap.size → ∃ W1, W1 = W.alloc (.cells #[.string x] 9) ∧ Below W.heap.size W W1 ∧ m ≤ W1.heap.size ∧ RowV m W1.heap.size W1 (.slice (some ⟨W.heap.size, 0, none⟩) 1 1) ([x].map .string) := fun W x hW =>
    ⟨_, rfl, (Below.refl _ _).alloc (Nat.le_refl _) _, by simp; omega, _, 1, rfl, by simp, fun j u hu => ⟨W.heap.size, 0, rfl, hW, by simp, by
      have := (Box.new W 9 #[.string x]).at j (v := u) (by simpa using hu)
      simpa using this⟩⟩
  have hu : litP k n s = if k = 3 then [if n = 1 then ⟨#[84, 82, 85, 69]⟩ else ⟨#[70, 65, 76, 83, 69]⟩] else [⟨(Lib.itoa n).toArray⟩] := by unfold litP; rw [if_neg hk]
  replace hu := hide hu
  by_cases h3 : k = 3
  · have e3 : (k == 3) = true := by simp [h3]
    have ht := hide (truth_c (n == 1))
    have hx := hide (show (if (n == 1) = true then (⟨#[84, 82, 85, 69]⟩ : ByteArray) else ⟨#[70, 65, 76, 83, 69]⟩) = if n = 1 then ⟨#[84, 82, 85, 69]⟩ else ⟨#[70, 65, 76, 83, 69]⟩ by simp)
    have hu2 := hide (show litP k n s = [if n = 1 then ⟨#[84, 82, 85, 69]⟩ else ⟨#[70, 65, 76, 83, 69]⟩] by rw [unhide hu, if_pos h3])
    obtain ⟨xx, hxx⟩ : ∃ xx : ByteArray, xx = if n = 1 then ⟨#[84, 82, 85, 69]⟩ else ⟨#[70, 65, 76, 83, 69]⟩ := ⟨_, rfl⟩
    rw [← hxx] at hx hu2
    clear hk h3 hxx
    go_enter Tryd.func20, Tryd.ntmps20
    go_upto_region 1 with fail
    rw [← hW0]
    clear hW0
    go_wp2_with fail
    refine (unhide ht _).mono ?_
    rintro e w1 ⟨rfl, ew⟩
    rw [unhide hx, ew]
    clear ew
    obtain ⟨W1, hW1, b1, hm1, hr1⟩ := row W0 xx (Nat.le_trans hm b0.size)
    have hp := hide (plain_c m _ [xx] W1 hm1 hr1)
    go_wp2_with fail
    rw [← hW1]
    clear hW1
    refine (unhide hp).mono ?_
    rintro e w2 ⟨u, rfl, hp2, hb2⟩
    go_wp2_with fail
    go_ret
    exact ⟨_, rfl, by rw [unhide hu2]; exact hp2, b0.trans ((b1.trans (hb2.mono b1.size)).mono b0.size)⟩
  · have e3 : (k == 3) = false := by simp [h3]
    have hu2 := hide (show litP k n s = [⟨(Lib.itoa n).toArray⟩] by rw [unhide hu, if_neg h3])
    have hf := hide (Tryd.strconv_FormatInt_10 n h0 h1 W0 (hV.on b0).tab)
    clear hk h3
    go_enter Tryd.func20, Tryd.ntmps20
    go_upto_region 1 with fail
    rw [← hW0]
    clear hW0
    go_wp2_with fail
    refine (unhide hf).mono ?_
    rintro e w1 ⟨rfl, q, os, ew⟩
    have b1 : Below W0.heap.size W0 w1 := by rw [ew]; exact Go.Lib.below_grow _ _ (Nat.le_refl _) _ _
    clear ew
    obtain ⟨W1, hW1, b2, hm1, hr1⟩ := row w1 ⟨(Lib.itoa n).toArray⟩ (Nat.le_trans (Nat.le_trans hm b0.size) b1.size)
    have hp := hide (plain_c m _ [⟨(Lib.itoa n).toArray⟩] W1 hm1 hr1)
    go_wp2_with fail
    rw [← hW1]
    clear hW1
    refine (unhide hp).mono ?_
    rintro e w2 ⟨u, rfl, hp2, hb2⟩
    go_wp2_with fail
    go_ret
    exact ⟨_, rfl, by rw [unhide hu2]; exact hp2, b0.trans ((b1.trans ((b2.trans (hb2.mono b2.size)).mono b1.size)).mono b0.size)⟩

end Go.Proofs.YtfofpenajkaalaaDoor
