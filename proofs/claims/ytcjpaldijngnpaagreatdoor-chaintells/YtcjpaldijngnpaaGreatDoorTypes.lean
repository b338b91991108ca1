/-
  What the walk over the types of a schema behind a change gives (package evolve: types): each type behind the change, its fields in new memory, and the new one at its place; for every schema of at most 5 types of at most 5 fields and every change, in whatever world; nothing that lay is turned.
-/
import Derived.Test.YtcjpaldijngnpaaGreatDoorChanged
import Derived.Test.YtcjpaldijngnpaaGreatDoorAllM
namespace Go.Proofs.YtcjpaldijngnpaaGreatDoor
open Go.RowKit Go.Shelf

attribute [local go_sem] Oper.semAt_some

/-- These blocks, and all rows of fields, lie as they lay. -/
structure KeepT (K : Nat → Prop) (A B : World) : Prop where
  size : A.heap.size ≤ B.heap.size
  same : ∀ k, (K k ∨ ∃ cs, A.heap[k]? = some (.cells cs 66 (0, 0))) → k < A.heap.size → B.heap[k]? = A.heap[k]?
theorem KeepT.refl (K : Nat → Prop) (A : World) : KeepT K A A := ⟨Nat.le_refl _, fun _ _ _ => rfl⟩
theorem KeepT.trans {K : Nat → Prop} {A B C : World} (h : KeepT K A B) (k : KeepT K B C) : KeepT K A C := ⟨Nat.le_trans h.size k.size, fun i hi hl => by
  have e := h.same i hi hl
  refine (k.same i ?_ (Nat.lt_of_lt_of_le hl h.size)).trans e
  rcases hi with hi | ⟨cs, hi⟩
  · exact .inl hi
  · exact .inr ⟨cs, e.trans hi⟩⟩
theorem KeepT.below {K : Nat → Prop} {A B : World} (h : Below A.heap.size A B) : KeepT K A B := ⟨h.size, fun k _ hl => h.block k hl⟩
theorem KeepT.on {K : Nat → Prop} {A B C : World} (h : KeepT K A B) (k : Below B.heap.size B C) : KeepT K A C := h.trans (KeepT.below k)
theorem KeepT.box {K : Nat → Prop} {A B : World} (h : KeepT K A B) {X : Nat} {t : TypeId} {cs : Array Value} (hb : Box A X t cs) (hK : K X) : Box B X t cs := (h.same X (.inl hK) hb.lt).trans hb
theorem KeepT.owns {K : Nat → Prop} {A B : World} (h : KeepT K A B) {base n : Nat} {v : Value} {xs : List Value} (ho : A.ownsRow base 66 2 v n xs) : B.ownsRow base 66 2 v n xs :=
  owns_keep ho fun g hg hl => h.same g (.inr (owns_lt ho hg).2) hl
theorem Flds.blocks {n : Nat} {A B : World} (h : ∀ k, k < n → B.heap[k]? = A.heap[k]?) {a : Option Addr} {fs : List Fd} (hF : Flds n A a fs) : Flds n B a fs := by
  rcases hF with e | ⟨b, off, e, hb, hc⟩
  · exact .inl e
  · exact .inr ⟨b, off, e, hb, fun j hj => ⟨(World.cell?_of_block (w := A) (a := ⟨b, off + j * 2, none⟩) (h b hb)).trans (hc j hj).1, (World.cell?_of_block (w := A) (a := ⟨b, off + j * 2 + 1, none⟩) (h b hb)).trans (hc j hj).2⟩⟩
theorem Typs.blocks {n : Nat} {A B : World} (h : ∀ k, k < n → B.heap[k]? = A.heap[k]?) {a : Option Addr} {ts : List Ty} (hT : Typs n A a ts) : Typs n B a ts := by
  rcases hT with e | ⟨b, off, e, hb, hc⟩
  · exact .inl e
  · refine .inr ⟨b, off, e, hb, fun j hj => ?_⟩
    obtain ⟨h1, a', c', h2, h3, h4⟩ := hc j hj
    exact ⟨(World.cell?_of_block (w := A) (a := ⟨b, off + j * 2, none⟩) (h b hb)).trans h1, a', c', (World.cell?_of_block (w := A) (a := ⟨b, off + j * 2 + 1, none⟩) (h b hb)).trans h2, h3.blocks h, h4⟩
theorem KeepT.typs {K : Nat → Prop} {A B : World} (h : KeepT K A B) {n : Nat} {a : Option Addr} {ts : List Ty} (hT : Typs n A a ts) (hn : n ≤ A.heap.size) (hK : ∀ k, k < n → K k) : Typs n B a ts :=
  hT.blocks fun k hk => h.same k (.inl (hK k hk)) (Nat.lt_of_lt_of_le hk hn)

theorem KeepT.flds {K : Nat → Prop} {A B : World} (h : KeepT K A B) {n : Nat} {a : Option Addr} {fs : List Fd} (hF : Flds n A a fs) (hn : n ≤ A.heap.size) (hK : ∀ k, k < n → K k) : Flds n B a fs :=
  hF.blocks fun k hk => h.same k (.inl (hK k hk)) (Nat.lt_of_lt_of_le hk hn)
/-- So, and what was laid from m on. -/
def KeepM (K : Nat → Prop) (m : Nat) (A B : World) : Prop := KeepT K A B ∧ ∀ k, m ≤ k → k < A.heap.size → B.heap[k]? = A.heap[k]?
theorem KeepM.trans {K : Nat → Prop} {m : Nat} {A B C : World} (h : KeepM K m A B) (k : KeepM K m B C) : KeepM K m A C := ⟨h.1.trans k.1, fun i hi hl => (k.2 i hi (Nat.lt_of_lt_of_le hl h.1.size)).trans (h.2 i hi hl)⟩
theorem KeepM.below {K : Nat → Prop} {m : Nat} {A B : World} (h : Below A.heap.size A B) : KeepM K m A B := ⟨KeepT.below h, fun k _ hl => h.block k hl⟩

/-- A type behind a change. -/
def chgT (c : Ch) (t : Ty) : Ty := (t.1, fNew t.1 c t.2)
/-- Less, byte by byte. -/
def lessT (x y : Txt) : Bool := Op.bytesLess x.1.toList y.1.toList
/-- Whether the new type has its place among the first k. -/
def plTo (c : Ch) (ts : List Ty) : Nat → Bool
  | 0 => c.k != 5
  | k + 1 => plTo c ts k || lessT c.t (ty ts k).1
/-- The types that the first k give. -/
def tTo (c : Ch) (ts : List Ty) : Nat → List Ty
  | 0 => []
  | k + 1 => tTo c ts k ++ (if !plTo c ts k && lessT c.t (ty ts k).1 then [(c.t, [])] else []) ++ [chgT c (ty ts k)]
/-- All types behind a change. -/
def tNew (c : Ch) (ts : List Ty) : List Ty := tTo c ts ts.length ++ if plTo c ts ts.length then [] else [(c.t, [])]
theorem tTo_len (c : Ch) (ts : List Ty) (k : Nat) : (tTo c ts k).length ≤ k + 1 ∧ (plTo c ts k = false → (tTo c ts k).length = k) := by
  induction k with
  | zero => simp [tTo]
  | succ k ih =>
    obtain ⟨h1, h2⟩ := ih
    cases hp : plTo c ts k
    · have h2 := h2 hp
      cases hl : lessT c.t (ty ts k).1 <;> simp [tTo, plTo, hp, hl] <;> omega
    · have hq : (tTo c ts (k + 1)).length = (tTo c ts k).length + 1 := by simp [tTo, hp]
      refine ⟨by omega, fun h => ?_⟩
      simp [plTo, hp] at h

/-- A type with where its fields lie. -/
abbrev Tw := Ty × Option Addr × Nat
abbrev twV (x : Tw) : Array Value := #[.agg #[.string x.1.1.1, .slice x.2.1 x.1.2.length x.2.2]]
/-- Its fields are a row of its own. -/
def Tw.own (base : Nat) (W : World) (x : Tw) : Prop := W.ownsRow base 66 2 (.slice x.2.1 x.1.2.length x.2.2) x.1.2.length (newsF x.1.2)

set_option maxRecDepth 100000 in
set_option maxHeartbeats 8000000 in
theorem types1_all (n : Nat) (hn : 1 ≤ n) (l Bs Bc n₀ cap : Nat) (a : Option Addr) (ts : List Ty) (c : Ch) (h5 : ts.length ≤ 5) (hk5 : ∀ k, (ty ts k).2.length ≤ 5) (J : List Tw → World → Prop)
    (hY : ∀ pre x W0 W1, J pre W0 → Below W0.heap.size W0 W1 → pre.length < ts.length + 1 → YieldAt Fence.wide (n - 1) Tryz.prog l (twV x) W1 fun e W' => e = .returned (.bool true) ∧ J (pre ++ [x]) W' ∧ KeepM (fun k => k < n₀ ∨ k = Bs ∨ k = Bc) W0.heap.size W1 W')
    (W : World) (hn₀ : n₀ ≤ W.heap.size) (hBs : Box W Bs 24 #[.slice a ts.length cap]) (hBc : Box W Bc 42 c.cs) (hT : Typs n₀ W a ts) (h0 : J [] W) :
    CallsIn Fence.wide n Tryz.prog 93 #[.func (.yield l) #[] #[], .pointer (some ⟨Bc, 0, none⟩), .pointer (some ⟨Bs, 0, none⟩)] W fun e W' => (∃ v, e = .returned v) ∧ ∃ xs, (xs.map (·.1) = tNew c ts ∧ ∀ x ∈ xs, Tw.own n₀ W' x) ∧ J xs W' := by
  have hK0 : ∀ k, k < n₀ → (k < n₀ ∨ k = Bs ∨ k = Bc) := fun k h => .inl h
  obtain ⟨hc0, hc1, hc2, hc3, hc4, hc5, hc6⟩ := hBc.seven
  have hs0 := hBs.one.1
  have hpl0 := hide (show plTo c ts 0 = (c.k != 5) from rfl)
  refine callsIn_of_wp Tryz.func93 rfl trivial ?_ rfl
  simp only [Tryz.ntmps93, List.size_toArray, List.length_cons, List.length_nil, Nat.reduceAdd, Nat.reduceSub, Array.replicate_succ, Array.replicate_zero, List.push_toArray, List.append_toArray, List.nil_append, List.cons_append]
  gi_wp2
  gi_loopw [4, 13] (fun p i wr => ∃ k : Nat, k ≤ ts.length ∧ p = .bool (plTo c ts k) ∧ i = .int .i64 k ∧ ∃ xs, Hid (xs.map (·.1) = tTo c ts k ∧ ∀ x ∈ xs, Tw.own n₀ wr x) ∧ J xs wr ∧ KeepT (fun k => k < n₀ ∨ k = Bs ∨ k = Bc) W wr)
    (fun _ i _ => ts.length - (intOf i).toNat)
  case atStart => exact ⟨0, Nat.zero_le _, rfl, rfl, [], hide ⟨rfl, fun x hx => by simp at hx⟩, h0, KeepT.refl _ _⟩
  case round =>
    obtain ⟨k, hk, rfl, rfl, xs, hxs, hJs, hkp⟩ := hrel
    have hBc' := hkp.box hBc (.inr (.inr rfl))
    have hT' := hkp.typs hT hn₀ hK0
    clear hc0 hc1 hc2 hc3 hc4 hc5 hc6 hs0
    obtain ⟨hc0, hc1, hc2, hc3, hc4, hc5, hc6⟩ := hBc'.seven
    have hlc := hBc'.lt
    have hlen := (tTo_len c ts k).1
    by_cases hlt : k < ts.length
    · rcases hT' with rfl | ⟨b, off, rfl, hb, hcs⟩
      · simp at hlt
      obtain ⟨hd1, a', c', hd2, hF, -⟩ := hcs k hlt
      clear hcs
      have hk5' := hk5 k
      obtain ⟨⟨nm, fs⟩, ht⟩ : ∃ t, t = ty ts k := ⟨_, rfl⟩
      rw [← ht] at hd1 hd2 hF hk5'
      simp only at hd1 hd2 hF hk5'
      have bA : Below wr.heap.size wr (wr.alloc (.cells #[.string nm.1, .slice a' fs.length c'] 69)) := (Below.refl _ _).alloc (Nat.le_refl _) _
      have hnr : n₀ ≤ wr.heap.size := Nat.le_trans hn₀ hkp.size
      cases hP : plTo c ts k
      · cases hL : Op.bytesLess c.t.1.toList nm.1.toList
        · have hsucc := hide (show plTo c ts (k + 1) = false ∧ tTo c ts (k + 1) = tTo c ts k ++ [chgT c (nm, fs)] by
            have hL' : lessT c.t (ty ts k).1 = false := by rw [← ht]; exact hL
            rw [ht]; simp [plTo, tTo, hP, hL'])
          have xt := Box.new wr 69 #[.string nm.1, .slice a' fs.length c']
          have hc' := hBc'.alloc (.cells #[.string nm.1, .slice a' fs.length c'] 69)
          have FA := (hF.mono hnr).on bA
          replace ht := hide ht
          have hlx := hide (show xs.length < ts.length + 1 by have := congrArg List.length (unhide hxs).1; simp at this; omega)
          clear hF
          gi_wp2_with fail
          refine ⟨trivial, ?_⟩
          refine (callsIn_wide.2 (changed_c nm a' c' fs c hk5' _ FA)).mono ?_
          rintro e w1 ⟨v, rfl, ho, hb1⟩
          obtain ⟨a4, c4, rfl, -, -⟩ := flds_of_owns ho
          have b1 := bA.trans (hb1.mono bA.size)
          obtain ⟨fn, tmps, assign, body, hy, hR⟩ := (hY xs ((nm, fNew nm c fs), a4, c4) wr w1 hJs b1 (unhide hlx)).mono
              (R' := fun e W' => e = .returned (.bool true) ∧ Hid (J (xs ++ [((nm, fNew nm c fs), a4, c4)]) W' ∧ KeepT (fun k => k < n₀ ∨ k = Bs ∨ k = Bc) w1 W'))
              (fun e W' h => ⟨h.1, hide ⟨h.2.1, h.2.2.1⟩⟩)
          replace ho := hide ho
          gi_wp2_with fail
          refine hR.mono ?_
          rintro e W3 ⟨rfl, hpost⟩
          clear hR hy
          gi_wp2_with fail
          obtain ⟨hJ3, hk3⟩ := unhide hpost
          go_roundw
          case rel =>
            refine ⟨k + 1, by omega, by rw [(unhide hsucc).1], by go_num, _, hide ⟨?_, ?_⟩, hJ3, (hkp.on b1).trans hk3⟩
            · rw [(unhide hsucc).2, List.map_append, (unhide hxs).1]; rfl
            · intro x hx
              rcases List.mem_append.1 hx with hx | hx
              · exact hk3.owns ((KeepT.below b1 : KeepT (fun k => k < n₀ ∨ k = Bs ∨ k = Bc) _ _).owns ((unhide hxs).2 x hx))
              · simp only [List.mem_singleton] at hx
                subst hx
                exact hk3.owns (owns_base (by simp; omega) (unhide ho))
          case measure => simp [intOf]; omega
        · have hsucc := hide (show plTo c ts (k + 1) = true ∧ tTo c ts (k + 1) = tTo c ts k ++ [(c.t, [])] ++ [chgT c (nm, fs)] by
            have hL' : lessT c.t (ty ts k).1 = true := by rw [← ht]; exact hL
            rw [ht]; simp [plTo, tTo, hP, hL'])
          have xt := Box.new wr 69 #[.string nm.1, .slice a' fs.length c']
          have hc' := hBc'.alloc (.cells #[.string nm.1, .slice a' fs.length c'] 69)
          have hF0 := hide hF
          have hkx := (tTo_len c ts k).2 hP
          replace ht := hide ht
          have hlx := hide (show xs.length = k by have := congrArg List.length (unhide hxs).1; simp at this; omega)
          obtain ⟨fn, tmps, assign, body, hy, hR⟩ := (hY xs ((c.t, []), none, 0) wr (wr.alloc (.cells #[.string nm.1, .slice a' fs.length c'] 69)) hJs bA (by rw [unhide hlx]; omega)).mono
              (R' := fun e W' => e = .returned (.bool true) ∧ Hid (J (xs ++ [((c.t, []), none, 0)]) W' ∧ KeepM (fun k => k < n₀ ∨ k = Bs ∨ k = Bc) wr.heap.size (wr.alloc (.cells #[.string nm.1, .slice a' fs.length c'] 69)) W'))
              (fun e W' h => ⟨h.1, hide h.2⟩)
          simp only [twV, List.length_nil] at hy
          clear hF
          gi_wp2_with fail
          refine hR.mono ?_
          rintro e W2 ⟨rfl, hpost⟩
          clear hR hy
          obtain ⟨hJ2, hk2, hk2'⟩ := unhide hpost
          clear hpost hc0 hc1 hc2 hc3 hc4 hc5 hc6
          have xt2 : Box W2 wr.heap.size 69 #[.string nm.1, .slice a' fs.length c'] := (hk2' _ (Nat.le_refl _) xt.lt).trans xt
          have xc2 := hk2.box hc' (.inr (.inr rfl))
          have F2 := ((hk2.flds ((unhide hF0).below (bA.mono hnr)) (by simp; omega) hK0).mono (by have := hk2.size; simp at this; omega) : Flds W2.heap.size W2 a' fs)
          obtain ⟨hc0, hc1, hc2, hc3, hc4, hc5, hc6⟩ := xc2.seven
          obtain ⟨ht0, ht1⟩ := xt2.two
          clear xt
          gi_wp2_with fail
          refine ⟨trivial, ?_⟩
          refine (callsIn_wide.2 (changed_c nm a' c' fs c hk5' _ F2)).mono ?_
          rintro e w1 ⟨v, rfl, ho, hb1⟩
          obtain ⟨a4, c4, rfl, -, -⟩ := flds_of_owns ho
          have hk12 := (KeepT.below bA : KeepT (fun k => k < n₀ ∨ k = Bs ∨ k = Bc) _ _).trans hk2
          have hk13 := hk12.on hb1
          obtain ⟨fn, tmps, assign, body, hy, hR⟩ := (hY (xs ++ [((c.t, []), none, 0)]) ((nm, fNew nm c fs), a4, c4) W2 w1 hJ2 hb1 (by rw [List.length_append, unhide hlx]; simp; omega)).mono
              (R' := fun e W' => e = .returned (.bool true) ∧ Hid (J (xs ++ [((c.t, []), none, 0)] ++ [((nm, fNew nm c fs), a4, c4)]) W' ∧ KeepT (fun k => k < n₀ ∨ k = Bs ∨ k = Bc) w1 W'))
              (fun e W' h => ⟨h.1, hide ⟨h.2.1, h.2.2.1⟩⟩)
          replace ho := hide ho
          gi_wp2_with fail
          refine hR.mono ?_
          rintro e W3 ⟨rfl, hpost⟩
          clear hR hy
          gi_wp2_with fail
          obtain ⟨hJ3, hk3⟩ := unhide hpost
          go_roundw
          case rel =>
            refine ⟨k + 1, by omega, by rw [(unhide hsucc).1], by go_num, _, hide ⟨?_, ?_⟩, hJ3, (hkp.trans hk13).trans hk3⟩
            · rw [(unhide hsucc).2, List.map_append, List.map_append, (unhide hxs).1]; rfl
            · intro x hx
              rcases List.mem_append.1 hx with hx | hx
              · rcases List.mem_append.1 hx with hx | hx
                · exact hk3.owns (hk13.owns ((unhide hxs).2 x hx))
                · simp only [List.mem_singleton] at hx
                  subst hx
                  exact World.ownsRow_nil _ _ _ _
              · simp only [List.mem_singleton] at hx
                subst hx
                exact hk3.owns (owns_base (by have := hk12.size; omega) (unhide ho))
          case measure => simp [intOf]; omega
      · have hsucc := hide (show plTo c ts (k + 1) = true ∧ tTo c ts (k + 1) = tTo c ts k ++ [chgT c (nm, fs)] by rw [ht]; simp [plTo, tTo, hP])
        have xt := Box.new wr 69 #[.string nm.1, .slice a' fs.length c']
        have hc' := hBc'.alloc (.cells #[.string nm.1, .slice a' fs.length c'] 69)
        have FA := (hF.mono hnr).on bA
        replace ht := hide ht
        have hlx := hide (show xs.length < ts.length + 1 by have := congrArg List.length (unhide hxs).1; simp at this; omega)
        clear hF
        gi_wp2_with fail
        refine ⟨trivial, ?_⟩
        refine (callsIn_wide.2 (changed_c nm a' c' fs c hk5' _ FA)).mono ?_
        rintro e w1 ⟨v, rfl, ho, hb1⟩
        obtain ⟨a4, c4, rfl, -, -⟩ := flds_of_owns ho
        have b1 := bA.trans (hb1.mono bA.size)
        obtain ⟨fn, tmps, assign, body, hy, hR⟩ := (hY xs ((nm, fNew nm c fs), a4, c4) wr w1 hJs b1 (unhide hlx)).mono
            (R' := fun e W' => e = .returned (.bool true) ∧ Hid (J (xs ++ [((nm, fNew nm c fs), a4, c4)]) W' ∧ KeepT (fun k => k < n₀ ∨ k = Bs ∨ k = Bc) w1 W'))
            (fun e W' h => ⟨h.1, hide ⟨h.2.1, h.2.2.1⟩⟩)
        replace ho := hide ho
        gi_wp2_with fail
        refine hR.mono ?_
        rintro e W3 ⟨rfl, hpost⟩
        clear hR hy
        gi_wp2_with fail
        obtain ⟨hJ3, hk3⟩ := unhide hpost
        go_roundw
        case rel =>
          refine ⟨k + 1, by omega, by rw [(unhide hsucc).1], by go_num, _, hide ⟨?_, ?_⟩, hJ3, (hkp.on b1).trans hk3⟩
          · rw [(unhide hsucc).2, List.map_append, (unhide hxs).1]; rfl
          · intro x hx
            rcases List.mem_append.1 hx with hx | hx
            · exact hk3.owns ((KeepT.below b1 : KeepT (fun k => k < n₀ ∨ k = Bs ∨ k = Bc) _ _).owns ((unhide hxs).2 x hx))
            · simp only [List.mem_singleton] at hx
              subst hx
              exact hk3.owns (owns_base (by simp; omega) (unhide ho))
        case measure => simp [intOf]; omega
    · have hke : k = ts.length := by omega
      subst hke
      cases hP : plTo c ts ts.length
      · have hkx := (tTo_len c ts ts.length).2 hP
        have hlx := hide (show xs.length = ts.length by have := congrArg List.length (unhide hxs).1; simp at this; omega)
        have HA := hide (show tNew c ts = tTo c ts ts.length ++ [(c.t, [])] by simp [tNew, hP])
        obtain ⟨fn, tmps, assign, body, hy, hR⟩ := (hY xs ((c.t, []), none, 0) wr wr hJs (Below.refl _ _) (by rw [unhide hlx]; omega)).mono
            (R' := fun e W' => e = .returned (.bool true) ∧ Hid (J (xs ++ [((c.t, []), none, 0)]) W' ∧ KeepT (fun k => k < n₀ ∨ k = Bs ∨ k = Bc) wr W'))
            (fun e W' h => ⟨h.1, hide ⟨h.2.1, h.2.2.1⟩⟩)
        simp only [twV, List.length_nil] at hy
        gi_wp2_with fail
        refine hR.mono ?_
        rintro e W3 ⟨rfl, hpost⟩
        clear hR hy
        gi_wp2
        go_end0
        obtain ⟨hJ3, hk3⟩ := unhide hpost
        refine ⟨⟨_, rfl⟩, _, ⟨?_, ?_⟩, hJ3⟩
        · rw [unhide HA, List.map_append, (unhide hxs).1]; rfl
        · intro x hx
          rcases List.mem_append.1 hx with hx | hx
          · exact hk3.owns ((unhide hxs).2 x hx)
          · simp only [List.mem_singleton] at hx
            subst hx
            exact World.ownsRow_nil _ _ _ _
      · have HA := hide (show tNew c ts = tTo c ts ts.length by simp [tNew, hP])
        gi_wp2
        go_end0
        exact ⟨⟨_, rfl⟩, xs, ⟨by rw [unhide HA]; exact (unhide hxs).1, (unhide hxs).2⟩, hJs⟩

set_option maxHeartbeats 1000000 in
theorem typesW_c (a : Option Addr) (n cap : Nat) (c : Ch) (w : World) :
    Calls Tryz.prog 65 #[.agg #[.slice a n cap], c.v] w fun e w' => e = .returned (.func (.func 93) #[] #[.pointer (some ⟨w.heap.size + 1, 0, none⟩), .pointer (some ⟨w.heap.size, 0, none⟩)]) ∧ w' = (w.alloc (.cells #[.slice a n cap] 24)).alloc (.cells c.cs 42) := by
  go_enter Tryz.func65, Tryz.ntmps65
  go_wp2
  go_ret
  exact ⟨rfl, rfl⟩

theorem types_all (n : Nat) (hn : 1 ≤ n) (Bs Bc n₀ cap : Nat) (a : Option Addr) (ts : List Ty) (c : Ch) (h5 : ts.length ≤ 5) (hk5 : ∀ k, (ty ts k).2.length ≤ 5) (w : World) (hn₀ : n₀ ≤ w.heap.size) (hBs : Box w Bs 24 #[.slice a ts.length cap]) (hBc : Box w Bc 42 c.cs) (hT : Typs n₀ w a ts) :
    SeqAllM Fence.wide n Tryz.prog 93 #[.pointer (some ⟨Bc, 0, none⟩), .pointer (some ⟨Bs, 0, none⟩)] twV (KeepM (fun k => k < n₀ ∨ k = Bs ∨ k = Bc)) (fun xs W => xs.map (·.1) = tNew c ts ∧ ∀ x ∈ xs, Tw.own n₀ W x) (ts.length + 1) w := fun l J W hW _ hY h0 =>
  types1_all n hn l Bs Bc n₀ cap a ts c h5 hk5 J hY W (Nat.le_trans hn₀ hW.size) (hBs.on hW hBs.lt) (hBc.on hW hBc.lt) (hT.below (hW.mono hn₀)) h0

end Go.Proofs.YtcjpaldijngnpaaGreatDoor
