/-
  What escaped gives: the text byte by byte, with a backslash ahead of each quote and backslash.
  A region that draws its order, by what each operation's place holds: where whatever comes up gives its place what is said of it, of what the places that it waits for hold, all is so at the end, whatever order was picked. On the library's Derived.Orders.
  The steps of the regions in which package show puts pieces together: slices of texts and of pieces, calls of plain and all, whatever order was picked.
  What literal of package show gives: the pieces of a value's text.
-/
import Derived.Test.YtfofpenajkaalaaDoorWhole
import Derived.Great.BuildSlice
import Derived.Lib.AppendIntMem
namespace Go.Proofs.YtfofpenajkaalaaDoor
open Go.RowKit Go.Shelf

attribute [local go_sem] Oper.semAt_some

theorem eq_of_list {a b : ByteArray} (h : a.data.toList = b.data.toList) : a = b := by
  cases a; cases b; simp at h; simp [h]
theorem ext_list (s : ByteArray) (a b : Nat) : (s.extract a b).data.toList = (s.data.toList.take b).drop a := by
  rw [ByteArray.data_extract, Array.toList_extract, List.drop_take]
theorem ext_one (s : ByteArray) (k : Nat) (h : k < s.size) : s.extract k (k + 1) = ⟨#[s[k]]⟩ := by
  apply eq_of_list
  have hl : (s.data.toList.take k).length = k := by
    rw [List.length_take, Array.length_toList]; exact Nat.min_eq_left (Nat.le_of_lt h)
  rw [ext_list, take_snoc s k h, List.drop_append_of_le_length (by omega), List.drop_eq_nil_of_le (by omega)]
  rfl

/-- The pieces of a byte between quotes. -/
def escC (c : UInt8) : List ByteArray := if c.toNat = 34 ∨ c.toNat = 92 then [⟨#[92]⟩, ⟨#[c]⟩] else [⟨#[c]⟩]
def escP (l : List UInt8) : List ByteArray := l.flatMap escC
theorem escP_snoc (l : List UInt8) (c : UInt8) : escP (l ++ [c]) = escP l ++ escC c := by simp [escP]

set_option maxRecDepth 100000 in
set_option maxHeartbeats 4000000 in
theorem esc1_gives (B : Nat) (s : ByteArray) (hs : s.size ≤ 281474976710656) (n₀ : Nat) (X : Nat → World → Prop) (Gd : World → Prop) (hcl : ClsG n₀ X Gd) (W : World) (hG : Gd W) (hB : Box W B 9 #[.string s]) (hBn : B < n₀) :
    Gives (escP s.data.toList) 59 #[.pointer (some ⟨B, 0, none⟩)] X Gd W := by
  intro l J Jx B0 hB0 hJ hJx hY h0
  have hsl := hide (show s.data.toList.length = s.size from Array.length_toList ..)
  refine callsIn_wide.1 (show CallsIn Fence.wide 5 _ _ _ _ _ from ?_)
  refine callsIn_of_wp Tryd.func59 rfl trivial ?_ rfl
  simp only [Tryd.ntmps59, List.size_toArray, List.length_cons, List.length_nil, Nat.reduceAdd, Nat.reduceSub, Array.replicate_succ, Array.replicate_zero, List.push_toArray, List.append_toArray, List.nil_append, List.cons_append]
  have hb0 := hB.one.1
  gi_wp2_with fail
  gi_loopw [6] (fun i wr => ∃ k : Nat, k ≤ s.size ∧ i = .int .i64 k ∧ J (escP (s.data.toList.take k)) wr ∧ KeepX X Gd W wr) (fun i _ => s.size - (intOf i).toNat)
  case atStart => exact ⟨0, Nat.zero_le _, rfl, h0, KeepX.refl _ _ _⟩
  case round =>
    obtain ⟨k, hk, rfl, hJs, hkr⟩ := hrel
    have sr := hkr.sm hcl.cls hG
    have hbr := (hB.smk (SmB.of (m := 0) sr) (Nat.zero_le _) hBn).one.1
    have gr := (hkr hG).1
    by_cases hlt : k < s.size
    · have hkl : (k : Int) < s.size := by omega
      have htk := hide (show escP (s.data.toList.take (k + 1)) = escP (s.data.toList.take k) ++ escC s[k] by rw [take_snoc s k hlt, escP_snoc])
      have hall := hide (show escP s.data.toList = escP (s.data.toList.take k) ++ (escC s[k] ++ escP (s.data.toList.drop (k + 1))) by
        conv => lhs; rw [← List.take_append_drop (k + 1) s.data.toList, show ∀ a b, escP (a ++ b) = escP a ++ escP b from fun a b => by simp [escP], unhide htk, List.append_assoc])
      have hext := hide (ext_one s k hlt)
      have last : ∀ (pre : List ByteArray) (W1 : World), escP (s.data.toList.take k) ++ escC s[k] = pre ++ [⟨#[s[k]]⟩] → J pre W1 → YieldAt Fence.wide 4 Tryd.prog l #[.string (s.extract k (k + 1))] W1 fun e W' =>
          KeepsFrom B0 W1 W' ∧ ((e = .returned (.bool true) ∧ J (escP (s.data.toList.take (k + 1))) W' ∧ KeepX X Gd W1 W') ∨ (e = .returned (.bool false) ∧ ∃ q, SpS (escP s.data.toList) q ∧ Jx q W')) := fun pre W1 hp hj => by
        rw [unhide hext]
        refine (hY 4 pre ⟨#[s[k]]⟩ W1 hj ⟨escP (s.data.toList.drop (k + 1)), ?_⟩).mono fun e W' h => ⟨h.1, ?_⟩
        · rw [unhide hall, ← List.append_assoc, hp]; simp
        · rcases h.2 with ⟨h1, h2, h3⟩ | ⟨h1, h2⟩
          · exact .inl ⟨h1, by rw [unhide htk, hp]; exact h2, h3⟩
          · exact .inr ⟨h1, _, ⟨escP (s.data.toList.drop (k + 1)), by rw [unhide hall, ← List.append_assoc, hp]⟩, h2⟩
      by_cases hq : s[k].toNat = 34 ∨ s[k].toNat = 92
      · have hec : escC s[k] = [⟨#[92]⟩, ⟨#[s[k]]⟩] := by unfold escC; rw [if_pos hq]
        have hy1 := (hY 4 (escP (s.data.toList.take k)) ⟨#[92]⟩ wr hJs ⟨⟨#[s[k]]⟩ :: escP (s.data.toList.drop (k + 1)), by rw [unhide hall, hec]; simp⟩).mono (R' := fun e W' =>
          (e = .returned (.bool true) ∧ W'.cell? ⟨B, 0, none⟩ = some (.string s) ∧ KeepX X Gd wr W' ∧ YieldAt Fence.wide 4 Tryd.prog l #[.string (s.extract k (k + 1))] W' fun e W'' =>
            KeepsFrom B0 W' W'' ∧ ((e = .returned (.bool true) ∧ J (escP (s.data.toList.take (k + 1))) W'' ∧ KeepX X Gd W' W'') ∨ (e = .returned (.bool false) ∧ ∃ q, SpS (escP s.data.toList) q ∧ Jx q W''))) ∨
          (e = .returned (.bool false) ∧ ∃ q, SpS (escP s.data.toList) q ∧ Jx q W')) (fun e W' h => by
            rcases h.2 with ⟨h1, h2, h3⟩ | ⟨h1, h2⟩
            · exact .inl ⟨h1, (hB.smk (SmB.of (m := 0) (sr.trans (h3.sm hcl.cls gr))) (Nat.zero_le _) hBn).one.1, h3, last _ W' (by rw [hec]; simp) h2⟩
            · exact .inr ⟨h1, _, ⟨⟨#[s[k]]⟩ :: escP (s.data.toList.drop (k + 1)), by rw [unhide hall, hec]; simp⟩, h2⟩)
        clear last hec
        obtain ⟨fn, tmps, assign, body, hy, hR⟩ := hy1
        have e34 : ((s[k].toNat : Int) == 34) = true ∨ ((s[k].toNat : Int) == 34) = false ∧ ((s[k].toNat : Int) == 92) = true := by
          rcases hq with h | h
          · exact .inl (by simp [h])
          · exact .inr ⟨by simp [h], by simp [h]⟩
        clear hq
        rcases e34 with e34 | ⟨e34, e92⟩
        all_goals
          gi_wp2_with fail
          refine hR.mono ?_
          rintro e W3 (⟨rfl, hb3, hk3, fn2, tmps2, assign2, body2, hy2, hR2⟩ | ⟨rfl, hq3⟩)
          · gi_wp2_with fail
            refine hR2.mono ?_
            rintro e W4 ⟨-, ⟨rfl, hJ4, hk4⟩ | ⟨rfl, hq4⟩⟩
            · gi_wp2_with fail
              go_roundw
              case rel => exact ⟨k + 1, by omega, by go_num, hJ4, hkr.trans (hk3.trans hk4)⟩
              case measure => simp [intOf]; omega
            · replace hq4 := hide hq4
              gi_wp2_with fail
              refine bodyPost_ret (results_none rfl _ _ _) rfl ?_
              exact ⟨⟨_, rfl⟩, .inr (unhide hq4)⟩
          · replace hq3 := hide hq3
            gi_wp2_with fail
            refine bodyPost_ret (results_none rfl _ _ _) rfl ?_
            exact ⟨⟨_, rfl⟩, .inr (unhide hq3)⟩
      · have hec : escC s[k] = [⟨#[s[k]]⟩] := by unfold escC; rw [if_neg hq]
        obtain ⟨fn, tmps, assign, body, hy, hR⟩ := last _ wr (by rw [hec]) hJs
        have e34 : ((s[k].toNat : Int) == 34) = false := by simp; omega
        have e92 : ((s[k].toNat : Int) == 92) = false := by simp; omega
        clear last hec hq
        gi_wp2_with fail
        refine ⟨fun _ h => (by cases h), ?_⟩
        gi_wp2_with fail
        refine hR.mono ?_
        rintro e W4 ⟨-, ⟨rfl, hJ4, hk4⟩ | ⟨rfl, hq4⟩⟩
        · gi_wp2_with fail
          go_roundw
          case rel => exact ⟨k + 1, by omega, by go_num, hJ4, hkr.trans hk4⟩
          case measure => simp [intOf]; omega
        · replace hq4 := hide hq4
          gi_wp2_with fail
          refine bodyPost_ret (results_none rfl _ _ _) rfl ?_
          exact ⟨⟨_, rfl⟩, .inr (unhide hq4)⟩
    · have hke : s.data.toList.take k = s.data.toList := List.take_of_length_le (by rw [unhide hsl]; omega)
      replace hke := hide hke
      gi_wp2_with fail
      go_end0
      exact ⟨⟨_, rfl⟩, .inl ⟨_, by rw [unhide hke], hJs⟩⟩

theorem pcs_esc (m B : Nat) (hm : m ≤ B) (s : ByteArray) (hs : s.size ≤ 281474976710656) (W : World) (hB : Box W B 9 #[.string s]) : Pcs m W (.func (.func 59) #[] #[.pointer (some ⟨B, 0, none⟩)]) (escP s.data.toList) :=
  ⟨59, _, rfl, enters_of Tryd.func59 (by kernel_rfl) rfl, Nat.le_refl _, fun n₀ X Gd hcl hn W' hz _ hG => esc1_gives B s hs n₀ X Gd hcl W' hG (hB.smk hz hm hB.lt) (Nat.lt_of_lt_of_le hB.lt hn)⟩

set_option maxHeartbeats 1000000 in
theorem escaped_c (m : Nat) (s : ByteArray) (hs : s.size ≤ 281474976710656) (w : World) (hm : m ≤ w.heap.size) : Calls Tryd.prog 39 #[.string s] w fun e w' => ∃ u, e = .returned u ∧ Pcs m w' u (escP s.data.toList) ∧ Below w.heap.size w w' := by
  obtain ⟨W0, hW0⟩ : ∃ W0, W0 = w.alloc (.cells #[.string s] 9) := ⟨_, rfl⟩
  have b0 : Below w.heap.size w W0 := by rw [hW0]; exact (Below.refl _ _).alloc (Nat.le_refl _) _
  have x0 : Box W0 w.heap.size 9 #[.string s] := by rw [hW0]; exact Box.new _ _ _
  have hp := hide (pcs_esc m _ hm s hs W0 x0)
  go_enter Tryd.func39, Tryd.ntmps39
  go_upto_region 1 with fail
  rw [← hW0]
  clear hW0
  go_wp2_with fail
  go_ret
  exact ⟨_, rfl, unhide hp, b0⟩

end Go.Proofs.YtfofpenajkaalaaDoor

namespace Go.Proofs.YtfofpenajkaalaaDoor
open Go.RowKit Go.Shelf

section
variable {P : Program} {ops : Array Oper} {md : Region.Mode} {Q : Exit → Act → World → Prop}

/-- How many of n operations are still to come. -/
def togo (n : Nat) (listed : Array Bool) : Nat := ((List.range n).filter fun j => !(listed.getD j true)).length
theorem getD_set_same {listed : Array Bool} {i : Nat} (h : listed.getD i true = false) : (listed.setIfInBounds i true).getD i true = true := by
  have hi : i < listed.size := by
    rw [Array.getD_eq_getD_getElem?] at h
    rcases Nat.lt_or_ge i listed.size with hl | hl
    · exact hl
    · rw [Array.getElem?_eq_none hl] at h; cases h
  simp [Array.getD_eq_getD_getElem?, hi]
theorem togo_set {n : Nat} {listed : Array Bool} {i : Nat} (hn : i < n) (h : listed.getD i true = false) : togo n (listed.setIfInBounds i true) < togo n listed := by
  unfold togo
  have e : (List.range n).filter (fun j => !((listed.setIfInBounds i true).getD j true)) = ((List.range n).filter fun j => !(listed.getD j true)).filter fun j => j != i := by
    rw [List.filter_filter]
    congr 1
    funext j
    rcases Decidable.em (i = j) with rfl | hij
    · rw [getD_set_same h]; simp
    · rw [getD_set_ne true hij]
      simp [Ne.symm hij]
  rw [e, List.length_filter_lt_length_iff_exists]
  exact ⟨i, List.mem_filter.2 ⟨List.mem_range.2 hn, by simp [h]⟩, by simp⟩
theorem togo_zero {n : Nat} {listed : Array Bool} (h : togo n listed = 0) {i : Nat} (hi : i < n) : listed.getD i true = true := by
  unfold togo at h
  cases hq : listed.getD i true
  · have hm : i ∈ (List.range n).filter fun j => !(listed.getD j true) := List.mem_filter.2 ⟨List.mem_range.2 hi, by simp [hq]⟩
    rw [List.length_eq_zero_iff.1 h] at hm
    cases hm
  · rfl
theorem wpAny_inv (I : Array Bool → Act → World → Prop)
    (hstep : ∀ listed a w i, I listed a w → i ∈ Region.ready md ops listed → wpOp P ops Q i (fun a' w' => I (listed.setIfInBounds i true) a' w') a w)
    (hdone : ∀ listed a w, I listed a w → Region.ready md ops listed = [] → Q .normal a w) :
    ∀ (fuel : Nat) (listed : Array Bool) (a : Act) (w : World), togo ops.size listed ≤ fuel → I listed a w → wpAny P md ops Q fuel listed a w
  | 0, listed, a, w, hf, hI => by
    have hr : Region.ready md ops listed = [] := by
      rcases h : Region.ready md ops listed with _ | ⟨i, l⟩
      · rfl
      · exfalso
        have hm : i ∈ Region.ready md ops listed := by rw [h]; simp
        obtain ⟨hun, oi, hoi, _⟩ := mem_ready.1 hm
        have := togo_zero (Nat.le_zero.1 hf) (Array.getElem?_eq_some_iff.1 hoi).1
        rw [this] at hun; cases hun
    exact ⟨hr, hdone listed a w hI hr⟩
  | fuel + 1, listed, a, w, hf, hI => by
    refine ⟨fun hr => hdone listed a w hI hr, fun i hi => ?_⟩
    obtain ⟨hun, oi, hoi, _⟩ := mem_ready.1 hi
    have hlt := togo_set (Array.getElem?_eq_some_iff.1 hoi).1 hun
    exact wpOp_mono (fun a' w' h' => wpAny_inv I hstep hdone fuel _ a' w' (by omega) h') (hstep listed a w i hI hi)

/-- Each operation waits for earlier ones alone. -/
def depsUp (md : Region.Mode) (ops : Array Oper) : Bool := (List.range ops.size).all fun i => (ops[i]?).all fun o => o.after.toList.all fun e => !(Region.binds md e) || decide (e.on < i)
theorem ready_nil (hd : depsUp md ops = true) {listed : Array Bool} (hs : listed.size = ops.size) (h : Region.ready md ops listed = []) : ∀ i, i < ops.size → listed.getD i true = true := by
  intro i
  induction i using Nat.strongRecOn with
  | ind i ih =>
    intro hi
    cases hq : listed.getD i true
    · exfalso
      have hm : i ∈ Region.ready md ops listed := by
        refine mem_ready.2 ⟨hq, ops[i], Array.getElem?_eq_getElem hi, fun e he hb => ?_⟩
        have h1 := List.all_eq_true.1 hd i (List.mem_range.2 hi)
        rw [Array.getElem?_eq_getElem hi] at h1
        simp only [Option.all_some, List.all_eq_true, Bool.or_eq_true, Bool.not_eq_true', decide_eq_true_eq] at h1
        have h2 := (h1 e (by simpa using he)).resolve_left (by rw [hb]; simp)
        have h3 := ih e.on h2 (by omega)
        rw [Array.getD_eq_getD_getElem?] at h3 ⊢
        cases hz : listed[e.on]? with
        | none => have := Array.getElem?_eq_none_iff.1 hz; omega
        | some b => rw [hz] at h3; simpa using h3
      rw [h] at hm; cases hm
    · rfl

/-- What came up, came up behind what it waits for. -/
theorem ready_dep {listed : Array Bool} {i : Nat} (h : i ∈ Region.ready md ops listed) (j : Nat) (hw : waits md ops i j = true) : listed.getD j true = true := by
  cases hq : listed.getD j true
  · exact absurd h (waits_spec hw hq)
  · rfl
/-- Each operation writes a place of its own, below n; none is guarded. -/
def dstsOk (n : Nat) (ops : Array Oper) : Bool :=
  (List.range ops.size).all fun i => (ops[i]?).all fun o => o.guard.isNone && o.dst.any (fun d => decide (d < n) && (List.range ops.size).all fun j => decide (j = i) || (ops[j]?).all fun o' => !(o'.dst == some d))
theorem dstsOk_spec {n : Nat} (h : dstsOk n ops = true) {i : Nat} {o : Oper} (ho : ops[i]? = some o) : o.guard = none ∧ ∃ d, o.dst = some d ∧ d < n ∧ ∀ j o', ops[j]? = some o' → j ≠ i → o'.dst ≠ some d := by
  have hi := (Array.getElem?_eq_some_iff.1 ho).1
  have h1 := List.all_eq_true.1 h i (List.mem_range.2 hi)
  rw [ho] at h1
  simp only [Option.all_some, Bool.and_eq_true, Option.isNone_iff_eq_none] at h1
  obtain ⟨hg, h2⟩ := h1
  refine ⟨hg, ?_⟩
  cases hd : o.dst with
  | none => rw [hd] at h2; cases h2
  | some d =>
    rw [hd] at h2
    simp only [Option.any_some, Bool.and_eq_true, decide_eq_true_eq] at h2
    refine ⟨d, rfl, h2.1, fun j o' ho' hj hd' => ?_⟩
    have h3 := List.all_eq_true.1 h2.2 j (List.mem_range.2 (Array.getElem?_eq_some_iff.1 ho').1)
    rw [ho'] at h3
    simp [hj, hd'] at h3

/-- What holds where some operations have come: the places that they wrote hold what is said of them. -/
structure FactsAt (R : World → World → Prop) (Φ : Nat → Value → World → Prop) (md : Region.Mode) (ops : Array Oper) (a0 : Act) (w0 : World) (listed : Array Bool) (a : Act) (w : World) : Prop where
  size : listed.size = ops.size
  tsz : a.tmps.size = a0.tmps.size
  dfr : a.defers = a0.defers
  bel : R w0 w
  bef : ∀ s, (∀ (j : Nat) (oj : Oper), ops[j]? = some oj → oj.dst = some s → listed.getD j true = false) → a.tmps.getD s undef = a0.tmps.getD s undef
  up : ∀ (j k : Nat), j < ops.size → listed.getD j true = true → waits md ops j k = true → listed.getD k true = true
  got : ∀ (j : Nat) (oj : Oper) (d : Nat), ops[j]? = some oj → listed.getD j true = true → oj.dst = some d → Φ j (a.tmps.getD d undef) w

/-- A place that no operation writes. -/
def noDst (ops : Array Oper) (s : Nat) : Bool := ops.all fun o => !(o.dst == some s)
theorem noDst_spec {ops : Array Oper} {s : Nat} (h : noDst ops s = true) : ∀ (j : Nat) (oj : Oper), ops[j]? = some oj → oj.dst ≠ some s := fun j oj hj hd => by
  unfold noDst at h
  have := (Array.all_eq_true.1 h) j (Array.getElem?_eq_some_iff.1 hj).1
  rw [(Array.getElem?_eq_some_iff.1 hj).2, hd] at this
  simp at this
theorem put_same (a : Act) (d : Nat) (v : Value) (h : d < a.tmps.size) : (a.put (some d) v).tmps.getD d undef = v := by
  simp [Act.put, Array.getD_eq_getD_getElem?, h]
theorem put_ne (a : Act) (d s : Nat) (v : Value) (h : d ≠ s) : (a.put (some d) v).tmps.getD s undef = a.tmps.getD s undef := by
  simp [Act.put, Array.getD_eq_getD_getElem?, h]

theorem FactsAt.old {R : World → World → Prop} {Φ : Nat → Value → World → Prop} {a0 : Act} {w0 : World} {listed : Array Bool} {a : Act} {w : World} (h : FactsAt R Φ md ops a0 w0 listed a w) (s : Nat) (hs : ∀ (j : Nat) (oj : Oper), ops[j]? = some oj → oj.dst ≠ some s) : a.tmps.getD s undef = a0.tmps.getD s undef :=
  h.bef s fun j oj hj hd => absurd hd (hs j oj hj)
/-- Whatever writes s waits for i. -/
def lateDst (md : Region.Mode) (ops : Array Oper) (i s : Nat) : Bool := (List.range ops.size).all fun j => (ops[j]?).all fun o => !(o.dst == some s) || waits md ops j i
theorem FactsAt.early {R : World → World → Prop} {Φ : Nat → Value → World → Prop} {a0 : Act} {w0 : World} {listed : Array Bool} {a : Act} {w : World} (h : FactsAt R Φ md ops a0 w0 listed a w) {i : Nat} (hr : i ∈ Region.ready md ops listed) (s : Nat) (hs : lateDst md ops i s = true) : a.tmps.getD s undef = a0.tmps.getD s undef :=
  h.bef s fun j oj hj hd => by
    have hjs := (Array.getElem?_eq_some_iff.1 hj).1
    have h1 := List.all_eq_true.1 hs j (List.mem_range.2 hjs)
    rw [hj] at h1
    simp only [Option.all_some, hd, beq_self_eq_true, Bool.not_true, Bool.false_or] at h1
    cases hq : listed.getD j true
    · rfl
    · have := h.up j i hjs hq h1
      rw [(mem_ready.1 hr).1] at this; cases this

theorem facts_step (R : World → World → Prop) (hRt : ∀ {w w' w'' : World}, R w w' → R w' w'' → R w w'') (Φ : Nat → Value → World → Prop) (hst : ∀ i v w w', Φ i v w → R w w' → Φ i v w') (a0 : Act) (w0 : World) (hk : dstsOk a0.tmps.size ops = true)
    {listed : Array Bool} {a : Act} {w : World} {i : Nat} (hI : FactsAt R Φ md ops a0 w0 listed a w) (hr : i ∈ Region.ready md ops listed) (hs : ∀ oi, ops[i]? = some oi → Oper.wp P oi a w (fun a' w' => ∃ v, a' = a.put oi.dst v ∧ Φ i v w' ∧ R w w') Q) :
    wpOp P ops Q i (fun a' w' => FactsAt R Φ md ops a0 w0 (listed.setIfInBounds i true) a' w') a w := by
  obtain ⟨hun, oi, hoi, _⟩ := mem_ready.1 hr
  obtain ⟨hg, d, hdd, hdn, hoth⟩ := dstsOk_spec hk hoi
  have hs := hs oi hoi
  unfold wpOp
  simp only [hoi]
  have hw : Region.wanted oi (yielded ops a.tmps) = true := by simp [Region.wanted, hg]
  rw [if_pos hw]
  refine .inl ?_
  refine Oper.wp_mono (fun a' w' h => ?_) hs
  obtain ⟨v, rfl, hv, hb⟩ := h
  rw [hdd]
  refine ⟨by rw [Array.size_setIfInBounds]; exact hI.size, by simp [Act.put, hI.tsz], hI.dfr, hRt hI.bel hb, fun s hs' => ?_, fun j k hj hl hw' => ?_, fun j oj d' hj hl hd' => ?_⟩
  · have hne : d ≠ s := fun e => by
      have := hs' i oi hoi (by rw [hdd, e])
      rw [getD_set_same hun] at this; cases this
    rw [put_ne _ _ _ _ hne]
    refine hI.bef s fun j oj hj hd' => ?_
    have := hs' j oj hj hd'
    by_cases hij : i = j
    · subst hij; exact hun
    · rwa [getD_set_ne true hij] at this
  · by_cases hij : i = j
    · subst hij
      have := ready_dep hr k hw'
      by_cases hik : i = k
      · subst hik; exact getD_set_same hun
      · rw [getD_set_ne true hik]; exact this
    · rw [getD_set_ne true hij] at hl
      by_cases hik : i = k
      · subst hik; exact getD_set_same hun
      · rw [getD_set_ne true hik]; exact hI.up j k hj hl hw'
  · by_cases hij : j = i
    · subst hij
      rw [hoi] at hj; cases hj
      rw [hdd] at hd'; cases hd'
      rw [put_same _ _ _ (by rw [hI.tsz]; exact hdn)]
      exact hv
    · rw [getD_set_ne true (Ne.symm hij)] at hl
      rw [put_ne _ _ _ _ (fun e => hoth j oj hj hij (by rw [hd', e]))]
      exact hst j _ w w' (hI.got j oj d' hj hl hd') hb
theorem facts_zero (R : World → World → Prop) (hRr : ∀ w, R w w) (Φ : Nat → Value → World → Prop) (a0 : Act) (w0 : World) : FactsAt R Φ md ops a0 w0 (Array.replicate ops.size false) a0 w0 :=
  ⟨by simp, rfl, rfl, hRr _, fun _ _ => rfl, fun j k hj hl _ => by simp [Array.getD_eq_getD_getElem?, hj] at hl, fun j oj d hj hl _ => by
      have hi := (Array.getElem?_eq_some_iff.1 hj).1
      simp [Array.getD_eq_getD_getElem?, hi] at hl⟩
theorem wpAny_facts (R : World → World → Prop) (hRr : ∀ w, R w w) (hRt : ∀ {w w' w'' : World}, R w w' → R w' w'' → R w w'') (Φ : Nat → Value → World → Prop) (hst : ∀ i v w w', Φ i v w → R w w' → Φ i v w') (a0 : Act) (w0 : World) (hd : depsUp md ops = true) (hk : dstsOk a0.tmps.size ops = true)
    (hstep : ∀ listed a w i oi, FactsAt R Φ md ops a0 w0 listed a w → i ∈ Region.ready md ops listed → ops[i]? = some oi → Oper.wp P oi a w (fun a' w' => ∃ v, a' = a.put oi.dst v ∧ Φ i v w' ∧ R w w') Q)
    (hdone : ∀ a w, a.tmps.size = a0.tmps.size → a.defers = a0.defers → R w0 w → (∀ s, (∀ (j : Nat) (oj : Oper), ops[j]? = some oj → oj.dst ≠ some s) → a.tmps.getD s undef = a0.tmps.getD s undef) → (∀ (j : Nat) (oj : Oper) (d : Nat), ops[j]? = some oj → oj.dst = some d → Φ j (a.tmps.getD d undef) w) → Q .normal a w) :
    wpAny P md ops Q ops.size (Array.replicate ops.size false) a0 w0 := by
  refine wpAny_inv (fun listed a w => FactsAt R Φ md ops a0 w0 listed a w) ?_ ?_ _ _ _ _ ?_ ?_
  · exact fun listed a w i hI hr => facts_step R hRt Φ hst a0 w0 hk hI hr (hstep listed a w i · hI hr)
  · intro listed a w hI hr
    have hall := ready_nil hd hI.size hr
    exact hdone a w hI.tsz hI.dfr hI.bel hI.old (fun j oj d hj hd' => hI.got j oj d hj (hall j (Array.getElem?_eq_some_iff.1 hj).1) hd')
  · unfold togo
    exact Nat.le_trans (List.length_filter_le _ _) (by simp)
  · exact facts_zero R hRr Φ a0 w0

end
end Go.Proofs.YtfofpenajkaalaaDoor

namespace Go.Proofs.YtfofpenajkaalaaDoor
open Go.RowKit Go.Shelf

/-- What is said of a place's value. -/
inductive Fa where
  | any
  | is (v : Value)
  | row (ps : List ByteArray)
  | pcs (ps : List ByteArray)
  | parts (pss : List (List ByteArray))
def Fa.ok (m : Nat) : Fa → Value → World → Prop
  | .any, _, _ => True
  | .is u, v, _ => v = u
  | .row ps, v, w => RowV m w.heap.size w v (ps.map .string)
  | .pcs ps, v, w => Pcs m w v ps
  | .parts pss, v, w => ∃ vs, vs.length = pss.length ∧ RowV m w.heap.size w v vs ∧ ∀ (j : Nat) u ps, vs[j]? = some u → pss[j]? = some ps → Pcs m w u ps
theorem owns_keep {W W' : World} {base : Nat} {e : TypeId} {size : Nat} {v : Value} {n : Nat} {xs : List Value} (h : W.ownsRow base e size v n xs) (hk : ∀ g, v.ownBlock = some g → g < W.heap.size → W'.heap[g]? = W.heap[g]?) : W'.ownsRow base e size v n xs := by
  refine ⟨h.1, ?_⟩
  rcases h.2 with h0 | ⟨g, cap, cur, rfl, hb, hg, hr⟩
  · exact .inl h0
  · exact .inr ⟨g, cap, cur, rfl, hb, (hk g rfl (Array.getElem?_eq_some_iff.1 hg).1).trans hg, hr⟩
theorem owns_on {W W' : World} (hb : Below W.heap.size W W') {base : Nat} {e : TypeId} {size : Nat} {v : Value} {n : Nat} {xs : List Value} (h : W.ownsRow base e size v n xs) : W'.ownsRow base e size v n xs :=
  owns_keep h fun g _ hg => hb.block g hg
theorem owns_form {W : World} {base : Nat} {e : TypeId} {size : Nat} {v : Value} {n : Nat} {xs : List Value} (h : W.ownsRow base e size v n xs) : ∃ a cap, v = .slice a n cap := by
  rcases h.2 with ⟨rfl, h0⟩ | ⟨g, cap, cur, rfl, _⟩
  · exact ⟨none, 0, by rw [h0]⟩
  · exact ⟨_, _, rfl⟩
theorem Fa.on (m : Nat) (f : Fa) (v : Value) (w w' : World) (h : f.ok m v w) (hb : Below w.heap.size w w') : f.ok m v w' := by
  cases f with
  | any => trivial
  | is u => exact h
  | row ps => exact RowV.on hb h
  | pcs ps => exact Pcs.on h hb
  | parts pss =>
    obtain ⟨vs, h1, h2, h3⟩ := h
    exact ⟨vs, h1, h2.on hb, fun j u ps hu hp => (h3 j u ps hu hp).on hb⟩

theorem infoStr : (Tryd.prog.info? 9).map (fun i => (i.zero, i.size, i.bytes)) = some (some (.string ⟨#[]⟩), 1, 16) := by kernel_rfl
theorem infoPcs : (Tryd.prog.info? 46).map (fun i => (i.zero, i.size, i.bytes)) = some (some .nilFunc, 1, 8) := by kernel_rfl

/-- What a step of such a region comes to. -/
abbrev StepTo (m : Nat) (f : Fa) (o : Oper) (a : Act) (w : World) (Q : Exit → Act → World → Prop) : Prop :=
  Oper.wp Tryd.prog o a w (fun a' w' => ∃ v, a' = a.put o.dst v ∧ f.ok m v w' ∧ Below w.heap.size w w') Q

theorem step_slice {m : Nat} {o : Oper} {a : Act} {w : World} {Q : Exit → Act → World → Prop} (hm : m ≤ w.heap.size) (t e : TypeId) (n : Nat) (parts : Array (Nat × Operand)) (ho : o.op = .buildSlice t n parts) (i : TypeInfo) (z : Value)
    (ht : Tryd.prog.underlying t = some (.slice e)) (hi : Tryd.prog.info? e = some i) (hz : i.zero = some z) (hsz : i.size = 1) (vs : List Value) (hn : vs.length = n) (h0 : 0 < n) (h9 : n ≤ 9)
    (hone : ∀ v ∈ vs, v.cells = #[v]) (hev : (parts.map fun (j, x) => (j, a.eval x)).toList = (vs.zipIdx 0).map fun x => (x.2, x.1)) {f : Fa}
    (hK : ∀ v w', RowV m w'.heap.size w' v vs → Below w.heap.size w w' → f.ok m v w') : StepTo m f o a w Q := by
  refine wp_buildSlice t e n parts ho vs.toArray i z ht hi hz (by rw [hsz]; omega) (by rw [hsz]; omega) ?_ ?_
  · rw [hev, hsz]
    exact Great.fill_flat _ _ hone (by simp [hn])
  · have hb : Below w.heap.size w (w.alloc (.cells vs.toArray e)) := (Below.refl _ _).alloc (Nat.le_refl _) _
    refine ⟨_, rfl, hK _ _ ⟨_, n, by rw [hn], by omega, fun j u hu => ⟨w.heap.size, 0, rfl, hm, by simp, ?_⟩⟩ hb, hb⟩
    have := (Box.new w e vs.toArray).at j (v := u) (by simpa using hu)
    simpa using this

theorem step_row {m : Nat} {o : Oper} {a : Act} {w : World} {Q : Exit → Act → World → Prop} (hm : m ≤ w.heap.size) (n : Nat) (parts : Array (Nat × Operand)) (ho : o.op = .buildSlice 40 n parts) (ps : List ByteArray) (hn : ps.length = n) (h0 : 0 < n) (h9 : n ≤ 9)
    (hev : (parts.map fun (j, x) => (j, a.eval x)).toList = ((ps.map Value.string).zipIdx 0).map fun x => (x.2, x.1)) : StepTo m (.row ps) o a w Q := by
  obtain ⟨i, hi, hz, hs, -⟩ := info_parts infoStr
  refine step_slice hm 40 9 n parts ho i _ Tryd.underlying40 hi hz hs (ps.map .string) (by simpa using hn) h0 h9 (fun v hv => ?_) hev (fun v w' h _ => h)
  obtain ⟨x, -, rfl⟩ := List.mem_map.1 hv
  rfl
theorem step_parts {m : Nat} {o : Oper} {a : Act} {w : World} {Q : Exit → Act → World → Prop} (hm : m ≤ w.heap.size) (n : Nat) (parts : Array (Nat × Operand)) (ho : o.op = .buildSlice 89 n parts) (vs : List Value) (pss : List (List ByteArray)) (hl : vs.length = pss.length) (hn : vs.length = n) (h0 : 0 < n) (h9 : n ≤ 9)
    (hp : ∀ (j : Nat) u ps, vs[j]? = some u → pss[j]? = some ps → Pcs m w u ps) (hev : (parts.map fun (j, x) => (j, a.eval x)).toList = (vs.zipIdx 0).map fun x => (x.2, x.1)) : StepTo m (.parts pss) o a w Q := by
  obtain ⟨i, hi, hz, hs, -⟩ := info_parts infoPcs
  refine step_slice hm 89 46 n parts ho i _ Tryd.underlying89 hi hz hs vs hn h0 h9 (fun v hv => ?_) hev (fun v w' h hb => ⟨vs, hl, h, fun j u ps hu hps => (hp j u ps hu hps).on hb⟩)
  obtain ⟨j, hj⟩ := List.getElem?_of_mem hv
  obtain ⟨ps, hps⟩ : ∃ ps, pss[j]? = some ps := ⟨_, List.getElem?_eq_getElem (by rw [← hl]; exact (List.getElem?_eq_some_iff.1 hj).1)⟩
  obtain ⟨g, lb, rfl, -⟩ := hp j v ps hj hps
  rfl
theorem step_call {m : Nat} {o : Oper} {a : Act} {w : World} {Q : Exit → Act → World → Prop} {f : Fa} (k : Nat) (xs : Array Operand) (ts : Array TypeId) (ho : o.op = .call { callee := .value (.func k), args := xs, argTypes := ts })
    (en : ∀ args w, (callFunc k args).run Tryd.prog w = .ok (.enter k args) w) (vals : Array Value) (he : xs.map a.eval = vals) (hc : Calls Tryd.prog k vals w fun e w' => ∃ u, e = .returned u ∧ f.ok m u w' ∧ Below w.heap.size w w') : StepTo m f o a w Q := by
  have hr : (execOp a.eval o).run Tryd.prog w = .ok (.enter k vals) w := by
    unfold execOp
    simp [ho, resolve, Act.eval, Deferred.ofValue, invoke, he, en]
  unfold StepTo Oper.wp
  rw [hr, Oper.upon_enter]
  refine hc.mono fun e w' h => ?_
  obtain ⟨u, rfl, h1, h2⟩ := h
  exact ⟨u, rfl, h1, h2⟩
theorem step_plain {m : Nat} {o : Oper} {a : Act} {w : World} {Q : Exit → Act → World → Prop} (hm : m ≤ w.heap.size) (x : Operand) (ts : Array TypeId) (ho : o.op = .call { callee := .value (.func 38), args := #[x], argTypes := ts }) (ps : List ByteArray) (hx : (Fa.row ps).ok m (a.eval x) w) : StepTo m (.pcs ps) o a w Q :=
  step_call 38 _ ts ho (enters_of Tryd.func38 (by kernel_rfl) rfl) #[a.eval x] (by simp) (plain_c m _ ps w hm hx)
theorem step_all {m : Nat} {o : Oper} {a : Act} {w : World} {Q : Exit → Act → World → Prop} (hm : m ≤ w.heap.size) (x : Operand) (ts : Array TypeId) (ho : o.op = .call { callee := .value (.func 37), args := #[x], argTypes := ts }) (pss : List (List ByteArray)) (hx : (Fa.parts pss).ok m (a.eval x) w) : StepTo m (.pcs pss.flatten) o a w Q := by
  obtain ⟨vs, h1, h2, h3⟩ := hx
  exact step_call 37 _ ts ho (enters_of Tryd.func37 (by kernel_rfl) rfl) #[a.eval x] (by simp) (all_c m _ vs pss h1 w hm h3 h2)
theorem step_assign {m : Nat} {o : Oper} {a : Act} {w : World} {Q : Exit → Act → World → Prop} {f : Fa} (x : Operand) (ho : o.op = .assign x ∨ o.op = .move x) (hx : f.ok m (a.eval x) w) : StepTo m f o a w Q := by
  unfold StepTo Oper.wp execOp
  rcases ho with ho | ho
  all_goals
    simp only [ho]
    exact ⟨_, rfl, hx, Below.refl _ _⟩
theorem step_read {m : Nat} {o : Oper} {a : Act} {w : World} {Q : Exit → Act → World → Prop} (v : Value) (h : (execOp a.eval o).run Tryd.prog w = .ok (.value v) w) : StepTo m (.is v) o a w Q := by
  unfold StepTo Oper.wp
  rw [h]
  exact ⟨v, rfl, rfl, Below.refl _ _⟩

end Go.Proofs.YtfofpenajkaalaaDoor

namespace Go.Proofs.YtfofpenajkaalaaDoor
open Go.RowKit Go.Shelf

/-- The package variables on the road: the signs of package show, the library's powers of ten. -/
def signsL : List (List UInt8) := [[], [], [], [43], [45], [42], [61], [33, 61], [60], [60, 61], [65, 78, 68], [79, 82]]
structure Vars (W : World) : Prop where
  size : 4 ≤ W.heap.size
  sg : ∀ i (h : i < signsL.length), W.cell? ⟨0, i, none⟩ = some (.string ⟨signsL[i].toArray⟩)
  tab : Lib.TabIs Tryd.prog W "internal/strconv.uint64pow10" .u64 Lib.pow10Tab
theorem Vars.on {A W : World} (h : Vars A) (hb : Below A.heap.size A W) : Vars W where
  size := Nat.le_trans h.size hb.size
  sg := fun i hi => (hb.cell (p := ⟨0, i, none⟩) (by have := h.size; simp; omega)).trans (h.sg i hi)
  tab := var?_below hb (g := 1) (by kernel_rfl) (by have := h.size; omega) h.tab

set_option maxHeartbeats 1000000 in
theorem truth_c (b : Bool) (w : World) : Calls Tryd.prog 40 #[.bool b] w fun e w' => e = .returned (.string (if b then ⟨#[84, 82, 85, 69]⟩ else ⟨#[70, 65, 76, 83, 69]⟩)) ∧ w' = w := by
  cases b <;>
  · go_enter Tryd.func40, Tryd.ntmps40
    go_wp2_with fail
    go_ret
    exact ⟨rfl, rfl⟩

abbrev quB : ByteArray := ⟨#[34]⟩
/-- The pieces of a value's text. -/
def litP (k n : Int) (s : ByteArray) : List ByteArray :=
  if k = 2 then [quB] ++ escP s.data.toList ++ [quB] else if k = 3 then [if n = 1 then ⟨#[84, 82, 85, 69]⟩ else ⟨#[70, 65, 76, 83, 69]⟩] else [⟨(Lib.itoa n).toArray⟩]

theorem eval_tmp (a : Act) (d : Nat) : a.eval (.tmp d) = a.tmps.getD d undef := rfl

set_option maxRecDepth 100000 in
set_option maxHeartbeats 4000000 in
theorem literal_str (m : Nat) (n : Int) (s : ByteArray) (hs : s.size ≤ 281474976710656) (w : World) (hm : m ≤ w.heap.size) :
    Calls Tryd.prog 20 #[.agg #[.int .i64 2, .int .i64 n, .string s]] w fun e w' => ∃ u, e = .returned u ∧ Pcs m w' u ([quB] ++ escP s.data.toList ++ [quB]) ∧ Below w.heap.size w w' := by
  have hmx : Tryd.prog.follows .mixedOrders = true := by kernel_rfl
  obtain ⟨W0, hW0⟩ : ∃ W0, W0 = w.alloc (.cells #[.int .i64 2, .int .i64 n, .string s] 23) := ⟨_, rfl⟩
  have b0 : Below w.heap.size w W0 := by rw [hW0]; exact (Below.refl _ _).alloc (Nat.le_refl _) _
  have x0 : Box W0 w.heap.size 23 #[.int .i64 2, .int .i64 n, .string s] := by rw [hW0]; exact Box.new _ _ _
  obtain ⟨c0, c1, c2⟩ := x0.three
  go_enter Tryd.func20, Tryd.ntmps20
  go_upto_region 1 with fail
  rw [← hW0]
  clear hW0
  go_upto_region 3 with fail
  refine wp_region_any hmx ?_
  obtain ⟨V, hV⟩ : ∃ V, V = ({ heap := W0.heap, tape := W0.tape, drawn := W0.drawn + 1, os := W0.os, output := W0.output } : World) := ⟨_, rfl⟩
  have bV : Below W0.heap.size W0 V := by rw [hV]; exact (Below.refl _ _).drew
  rw [← hV]
  clear hV
  have xV := x0.on bV x0.lt
  refine wpAny_facts (fun x y => Below x.heap.size x y) (fun x => Below.refl _ _) (fun h k => h.trans (k.mono h.size)) (fun i v w' => (([.row [quB], .pcs [quB], .is (.pointer (some ⟨w.heap.size, 2, none⟩)), .is (.string s), .pcs (escP s.data.toList), .row [quB], .pcs [quB], .parts [[quB], escP s.data.toList, [quB]], .pcs ([[quB], escP s.data.toList, [quB]].flatten), .pcs ([[quB], escP s.data.toList, [quB]].flatten)] : List Fa).getD i .any).ok m v w') (fun i v w' w'' h hb => Fa.on m _ v w' w'' h hb) _ V (by kernel_rfl) (by kernel_rfl) ?hstep ?hdone
  case hstep =>
    rintro listed a w' i oi F hr ho
    have hmw : m ≤ w'.heap.size := Nat.le_trans hm (b0.trans ((bV.trans (F.bel.mono bV.size)).mono b0.size)).size
    have xw := xV.on F.bel xV.lt
    have e1 : a.eval (.tmp 1) = .pointer (some ⟨w.heap.size, 0, none⟩) := (F.old 1 (noDst_spec (by kernel_rfl))).trans rfl
    have hi := (Array.getElem?_eq_some_iff.1 ho).1
    obtain rfl | rfl | rfl | rfl | rfl | rfl | rfl | rfl | rfl | rfl : i = 0 ∨ i = 1 ∨ i = 2 ∨ i = 3 ∨ i = 4 ∨ i = 5 ∨ i = 6 ∨ i = 7 ∨ i = 8 ∨ i = 9 := by simp at hi; omega
    all_goals
      simp only [List.getElem?_toArray, List.getElem?_cons_succ, List.getElem?_cons_zero, Option.some.injEq] at ho
      subst ho
    · exact step_row hmw 1 _ rfl [quB] rfl (by decide) (by decide) (by simp [Act.eval])
    · have d0 := F.got 0 _ 7 rfl (ready_dep hr 0 (by kernel_rfl)) rfl
      exact step_plain hmw (.tmp 7) _ rfl _ d0
    · refine step_read _ ?_
      simp only [execOp, e1]
      go_simp
    · have d2 := F.got 2 _ 9 rfl (ready_dep hr 2 (by kernel_rfl)) rfl
      refine step_read _ ?_
      simp only [execOp, eval_tmp, show a.tmps.getD 9 undef = _ from d2]
      obtain ⟨k0, k1, k2⟩ := xw.three
      go_simp
    · have d3 := F.got 3 _ 10 rfl (ready_dep hr 3 (by kernel_rfl)) rfl
      refine step_call 39 _ _ rfl (enters_of Tryd.func39 (by kernel_rfl) rfl) #[.string s] (by simp [eval_tmp, show a.tmps.getD 10 undef = _ from d3]) (escaped_c m s hs w' hmw)
    · exact step_row hmw 1 _ rfl [quB] rfl (by decide) (by decide) (by simp [Act.eval])
    · have d5 := F.got 5 _ 12 rfl (ready_dep hr 5 (by kernel_rfl)) rfl
      exact step_plain hmw (.tmp 12) _ rfl _ d5
    · have d1 := F.got 1 _ 8 rfl (ready_dep hr 1 (by kernel_rfl)) rfl
      have d4 := F.got 4 _ 11 rfl (ready_dep hr 4 (by kernel_rfl)) rfl
      have d6 := F.got 6 _ 13 rfl (ready_dep hr 6 (by kernel_rfl)) rfl
      exact step_parts hmw 3 _ rfl [a.tmps.getD 8 undef, a.tmps.getD 11 undef, a.tmps.getD 13 undef] _ rfl rfl (by decide) (by decide) (fun j u ps hu hp => by
        match j, hu, hp with
        | 0, hu, hp => cases hu; cases hp; exact d1
        | 1, hu, hp => cases hu; cases hp; exact d4
        | 2, hu, hp => cases hu; cases hp; exact d6
        | j + 3, hu, hp => simp at hu) (by simp [Act.eval])
    · have d7 := F.got 7 _ 14 rfl (ready_dep hr 7 (by kernel_rfl)) rfl
      exact step_all hmw (.tmp 14) _ rfl _ d7
    · have d8 := F.got 8 _ 15 rfl (ready_dep hr 8 (by kernel_rfl)) rfl
      exact step_assign (.tmp 15) (.inl rfl) d8
  case hdone =>
    intro a w' hz hd hb hold hall
    have d9 := hall 9 _ 2 rfl rfl
    rename_i hret
    refine hret a w' ?_
    go_wp2_with fail
    refine bodyPost_ret (results_tmp rfl _ _ _) hd ⟨_, rfl, d9, b0.trans ((bV.trans (hb.mono bV.size)).mono b0.size)⟩

set_option maxRecDepth 100000 in
set_option maxHeartbeats 4000000 in
theorem literal_c (m : Nat) (k n : Int) (s : ByteArray) (h0 : -9223372036854775808 ≤ n) (h1 : n ≤ 9223372036854775807) (hs : k = 2 → s.size ≤ 281474976710656) (w : World) (hm : m ≤ w.heap.size) (hV : Vars w) :
    Calls Tryd.prog 20 #[.agg #[.int .i64 k, .int .i64 n, .string s]] w fun e w' => ∃ u, e = .returned u ∧ Pcs m w' u (litP k n s) ∧ Below w.heap.size w w' := by
  by_cases hk : k = 2
  · subst hk
    exact literal_str m n s (hs rfl) w hm
  obtain ⟨W0, hW0⟩ : ∃ W0, W0 = w.alloc (.cells #[.int .i64 k, .int .i64 n, .string s] 23) := ⟨_, rfl⟩
  have b0 : Below w.heap.size w W0 := by rw [hW0]; exact (Below.refl _ _).alloc (Nat.le_refl _) _
  have x0 : Box W0 w.heap.size 23 #[.int .i64 k, .int .i64 n, .string s] := by rw [hW0]; exact Box.new _ _ _
  obtain ⟨c0, c1, c2⟩ := x0.three
  have e2 : (k == 2) = false := by simp [hk]
  have row : ∀ (W : World) (x : ByteArray), m ≤ W.heap.size → ∃ W1, W1 = W.alloc (.cells #[.string x] 9) ∧ Below W.heap.size W W1 ∧ m ≤ W1.heap.size ∧ RowV m W1.heap.size W1 (.slice (some ⟨W.heap.size, 0, none⟩) 1 1) ([x].map .string) := fun W x hW =>
    ⟨_, rfl, (Below.refl _ _).alloc (Nat.le_refl _) _, by simp; omega, _, 1, rfl, by simp, fun j u hu => ⟨W.heap.size, 0, rfl, hW, by simp, by
      have := (Box.new W 9 #[.string x]).at j (v := u) (by simpa using hu)
      simpa using this⟩⟩
  have hu : litP k n s = if k = 3 then [if n = 1 then ⟨#[84, 82, 85, 69]⟩ else ⟨#[70, 65, 76, 83, 69]⟩] else [⟨(Lib.itoa n).toArray⟩] := by unfold litP; rw [if_neg hk]
  replace hu := hide hu
  by_cases h3 : k = 3
  · have e3 : (k == 3) = true := by simp [h3]
    have ht := hide (truth_c (n == 1))
    have hx := hide (show (if (n == 1) = true then (⟨#[84, 82, 85, 69]⟩ : ByteArray) else ⟨#[70, 65, 76, 83, 69]⟩) = if n = 1 then ⟨#[84, 82, 85, 69]⟩ else ⟨#[70, 65, 76, 83, 69]⟩ by simp)
    have hu2 := hide (show litP k n s = [if n = 1 then ⟨#[84, 82, 85, 69]⟩ else ⟨#[70, 65, 76, 83, 69]⟩] by rw [unhide hu, if_pos h3])
    obtain ⟨xx, hxx⟩ : ∃ xx : ByteArray, xx = if n = 1 then ⟨#[84, 82, 85, 69]⟩ else ⟨#[70, 65, 76, 83, 69]⟩ := ⟨_, rfl⟩
    rw [← hxx] at hx hu2
    clear hk h3 hxx
    go_enter Tryd.func20, Tryd.ntmps20
    go_upto_region 1 with fail
    rw [← hW0]
    clear hW0
    go_wp2_with fail
    refine (unhide ht _).mono ?_
    rintro e w1 ⟨rfl, ew⟩
    rw [unhide hx, ew]
    clear ew
    obtain ⟨W1, hW1, b1, hm1, hr1⟩ := row W0 xx (Nat.le_trans hm b0.size)
    have hp := hide (plain_c m _ [xx] W1 hm1 hr1)
    go_wp2_with fail
    rw [← hW1]
    clear hW1
    refine (unhide hp).mono ?_
    rintro e w2 ⟨u, rfl, hp2, hb2⟩
    go_wp2_with fail
    go_ret
    exact ⟨_, rfl, by rw [unhide hu2]; exact hp2, b0.trans ((b1.trans (hb2.mono b1.size)).mono b0.size)⟩
  · have e3 : (k == 3) = false := by simp [h3]
    have hu2 := hide (show litP k n s = [⟨(Lib.itoa n).toArray⟩] by rw [unhide hu, if_neg h3])
    have hf := hide (Tryd.strconv_FormatInt_10 n h0 h1 W0 (hV.on b0).tab)
    clear hk h3
    go_enter Tryd.func20, Tryd.ntmps20
    go_upto_region 1 with fail
    rw [← hW0]
    clear hW0
    go_wp2_with fail
    refine (unhide hf).mono ?_
    rintro e w1 ⟨rfl, q, os, ew⟩
    have b1 : Below W0.heap.size W0 w1 := by rw [ew]; exact Go.Lib.below_grow _ _ (Nat.le_refl _) _ _
    clear ew
    obtain ⟨W1, hW1, b2, hm1, hr1⟩ := row w1 ⟨(Lib.itoa n).toArray⟩ (Nat.le_trans (Nat.le_trans hm b0.size) b1.size)
    have hp := hide (plain_c m _ [⟨(Lib.itoa n).toArray⟩] W1 hm1 hr1)
    go_wp2_with fail
    rw [← hW1]
    clear hW1
    refine (unhide hp).mono ?_
    rintro e w2 ⟨u, rfl, hp2, hb2⟩
    go_wp2_with fail
    go_ret
    exact ⟨_, rfl, by rw [unhide hu2]; exact hp2, b0.trans ((b1.trans ((b2.trans (hb2.mono b2.size)).mono b1.size)).mono b0.size)⟩

end Go.Proofs.YtfofpenajkaalaaDoor
