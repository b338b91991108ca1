/-
  Elements of a pattern, and as memory bears them; what parted, aliased, ContainsFunc, areTypes and isElem answer: for every row of elements that lies, in whatever world; nothing that lay is turned.
-/
import Derived.Test.YtfofpenajkaalaaDoorSame
import Derived.Test.YtfofpenajkaalaaDoorReadsZ
namespace Go.Proofs.YtfofpenajkaalaaDoor
open Go.RowKit Go.Shelf

/-- An element. -/
structure Em where
  al : Txt
  ts : List Txt
  pl : Bool
  nt : Bool
  t : Tree
/-- Where its lists lie. -/
structure Pl where
  ta : Option Addr
  tc : Nat
  ka : Option Addr
  kc : Nat
abbrev Em.cs (e : Em) (p : Pl) : Array Value := #[.string e.al.1, .slice p.ta e.ts.length p.tc, .bool e.pl, .bool e.nt, .int .i64 e.t.dat.op, .int .i64 e.t.dat.k, .int .i64 e.t.dat.n, .string e.t.dat.s.1, .string e.t.dat.al.1, .string e.t.dat.fd.1, .slice p.ka e.t.kids.length p.kc]
abbrev Em.v (e : Em) (p : Pl) : Value := .agg (e.cs p)
/-- These texts lie at a. -/
def Txts (n₀ : Nat) (W : World) (a : Option Addr) (ts : List Txt) : Prop :=
  ts.length ≤ 1099511627776 ∧ (ts = [] ∨ ∃ b off, a = some ⟨b, off, none⟩ ∧ b < n₀ ∧ ∀ (j : Nat) t, ts[j]? = some t → W.cell? ⟨b, off + j, none⟩ = some (.string t.1))
theorem Txts.sm {n₀ : Nat} {A B : World} (h : Sm n₀ A B) {a : Option Addr} {ts : List Txt} (k : Txts n₀ A a ts) : Txts n₀ B a ts := by
  refine ⟨k.1, ?_⟩
  rcases k.2 with h0 | ⟨b, off, e, hb, hc⟩
  · exact .inl h0
  · exact .inr ⟨b, off, e, hb, fun j t ht => h.cell hb (hc j t ht)⟩
theorem Txts.mono {n₀ n₁ : Nat} (h : n₀ ≤ n₁) {A : World} {a : Option Addr} {ts : List Txt} (k : Txts n₀ A a ts) : Txts n₁ A a ts := by
  refine ⟨k.1, ?_⟩
  rcases k.2 with h0 | ⟨b, off, e, hb, hc⟩
  · exact .inl h0
  · exact .inr ⟨b, off, e, by omega, hc⟩
theorem Txts.on {A B : World} {a : Option Addr} {ts : List Txt} (k : Txts A.heap.size A a ts) (h : Below A.heap.size A B) : Txts B.heap.size B a ts := (k.sm (Sm.of_below h)).mono h.size
theorem Txts.strs {n₀ : Nat} {W : World} {a : Option Addr} {ts : List Txt} (k : Txts n₀ W a ts) (c : Nat) : Strs n₀ W (.slice a ts.length c) (ts.map (·.1)) := by
  rcases k.2 with h0 | ⟨b, off, e, hb, hc⟩
  · subst h0; exact .inl ⟨a, c, rfl, rfl⟩
  · refine .inr ⟨b, off, c, by rw [e, List.length_map], hb, fun j hj => ?_⟩
    rw [List.length_map] at hj
    rw [hc j _ (List.getElem?_eq_getElem hj)]
    simp [List.getElem?_eq_getElem hj]
/-- What an element's lists hold. -/
def EmIn (n₀ : Nat) (W : World) (e : Em) (p : Pl) : Prop := Txts n₀ W p.ta e.ts ∧ Lies n₀ W p.ka e.t.kids
theorem EmIn.sm {n₀ : Nat} {A B : World} (h : Sm n₀ A B) {e : Em} {p : Pl} (k : EmIn n₀ A e p) : EmIn n₀ B e p := ⟨k.1.sm h, k.2.sm h⟩
theorem EmIn.mono {n₀ n₁ : Nat} (h : n₀ ≤ n₁) {A : World} {e : Em} {p : Pl} (k : EmIn n₀ A e p) : EmIn n₁ A e p := ⟨k.1.mono h, k.2.mono h⟩
theorem EmIn.on {A B : World} {e : Em} {p : Pl} (k : EmIn A.heap.size A e p) (h : Below A.heap.size A B) : EmIn B.heap.size B e p := (k.sm (Sm.of_below h)).mono h.size
/-- These elements lie at a. -/
def Ems (n₀ : Nat) (W : World) (a : Option Addr) (es : List Em) : Prop :=
  es.length ≤ 1000000 ∧ (es = [] ∨ ∃ (b off : Nat) (f : Nat → Pl), a = some ⟨b, off, none⟩ ∧ b < n₀ ∧ ∀ (j : Nat) e, es[j]? = some e → (∀ (i : Nat) u, (e.cs (f j))[i]? = some u → W.cell? ⟨b, off + j * 11 + i, none⟩ = some u) ∧ EmIn n₀ W e (f j))
theorem Ems.sm {n₀ : Nat} {A B : World} (h : Sm n₀ A B) {a : Option Addr} {es : List Em} (k : Ems n₀ A a es) : Ems n₀ B a es := by
  refine ⟨k.1, ?_⟩
  rcases k.2 with h0 | ⟨b, off, f, e, hb, hc⟩
  · exact .inl h0
  · exact .inr ⟨b, off, f, e, hb, fun j x hx => ⟨fun i u hu => h.cell hb ((hc j x hx).1 i u hu), (hc j x hx).2.sm h⟩⟩
theorem Ems.mono {n₀ n₁ : Nat} (h : n₀ ≤ n₁) {A : World} {a : Option Addr} {es : List Em} (k : Ems n₀ A a es) : Ems n₁ A a es := by
  refine ⟨k.1, ?_⟩
  rcases k.2 with h0 | ⟨b, off, f, e, hb, hc⟩
  · exact .inl h0
  · exact .inr ⟨b, off, f, e, by omega, fun j x hx => ⟨(hc j x hx).1, (hc j x hx).2.mono h⟩⟩
theorem Ems.on {A B : World} {a : Option Addr} {es : List Em} (k : Ems A.heap.size A a es) (h : Below A.heap.size A B) : Ems B.heap.size B a es := (k.sm (Sm.of_below h)).mono h.size
theorem Ems.at {n₀ : Nat} {W : World} {a : Option Addr} {es : List Em} (k : Ems n₀ W a es) {j : Nat} {e : Em} (he : es[j]? = some e) :
    ∃ b off p, a = some ⟨b, off, none⟩ ∧ b < n₀ ∧ (∀ (i : Nat) u, (e.cs p)[i]? = some u → W.cell? ⟨b, off + j * 11 + i, none⟩ = some u) ∧ EmIn n₀ W e p := by
  rcases k.2 with h0 | ⟨b, off, f, ea, hb, hc⟩
  · rw [h0] at he; simp at he
  · exact ⟨b, off, f j, ea, hb, (hc j e he).1, (hc j e he).2⟩
theorem Ems.take {n₀ : Nat} {W : World} {a : Option Addr} {es : List Em} (k : Ems n₀ W a es) (m : Nat) : Ems n₀ W a (es.take m) := by
  refine ⟨by have := k.1; simp; omega, ?_⟩
  rcases k.2 with h0 | ⟨b, off, f, ea, hb, hc⟩
  · exact .inl (by rw [h0]; simp)
  · refine .inr ⟨b, off, f, ea, hb, fun j e he => ?_⟩
    rw [List.getElem?_take] at he
    split at he
    · exact hc j e he
    · cases he
theorem Box.eleven {W : World} {B : Nat} {t : TypeId} {a b c d e f g h i j k : Value} (hb : Box W B t #[a, b, c, d, e, f, g, h, i, j, k]) : W.cell? ⟨B, 0, none⟩ = some a ∧ W.cell? ⟨B, 1, none⟩ = some b ∧ W.cell? ⟨B, 2, none⟩ = some c ∧ W.cell? ⟨B, 3, none⟩ = some d ∧ W.cell? ⟨B, 4, none⟩ = some e ∧ W.cell? ⟨B, 5, none⟩ = some f ∧ W.cell? ⟨B, 6, none⟩ = some g ∧ W.cell? ⟨B, 7, none⟩ = some h ∧ W.cell? ⟨B, 8, none⟩ = some i ∧ W.cell? ⟨B, 9, none⟩ = some j ∧ W.cell? ⟨B, 10, none⟩ = some k :=
  ⟨hb.at 0 rfl, hb.at 1 rfl, hb.at 2 rfl, hb.at 3 rfl, hb.at 4 rfl, hb.at 5 rfl, hb.at 6 rfl, hb.at 7 rfl, hb.at 8 rfl, hb.at 9 rfl, hb.at 10 rfl⟩

/-- Each Not stands between two that aren't. -/
def partB : Bool → List Em → Bool
  | n, [] => !n
  | n, e :: es => if n && e.nt then false else partB e.nt es
/-- How it stands behind some elements: none if it is over. -/
def partK : Bool → List Em → Option Bool
  | n, [] => some n
  | n, e :: es => if n && e.nt then none else partK e.nt es
theorem partK_snoc (n : Bool) (es : List Em) (e : Em) : partK n (es ++ [e]) = (partK n es).bind fun m => if m && e.nt then none else some e.nt := by
  induction es generalizing n with
  | nil => simp [partK]
  | cons x es ih =>
    simp only [List.cons_append, partK]
    by_cases h : (n && x.nt) = true
    · rw [if_pos h, if_pos h]; rfl
    · rw [if_neg h, if_neg h]; exact ih _
theorem partB_of (n : Bool) (es : List Em) : partB n es = match partK n es with | none => false | some m => !m := by
  induction es generalizing n with
  | nil => simp [partK, partB]
  | cons x es ih =>
    simp only [partK, partB]
    by_cases h : (n && x.nt) = true
    · rw [if_pos h, if_pos h]
    · rw [if_neg h, if_neg h]; exact ih _
theorem partK_no (n : Bool) (es : List Em) (k : Nat) (h : partK n (es.take k) = none) : partB n es = false := by
  induction es generalizing n k with
  | nil => simp [partK] at h
  | cons x es ih =>
    cases k with
    | zero => simp [partK] at h
    | succ k =>
      simp only [List.take_succ_cons, partK, partB] at h ⊢
      by_cases hc : (n && x.nt) = true
      · rw [if_pos hc]
      · rw [if_neg hc] at h ⊢; exact ih _ _ h

set_option maxRecDepth 100000 in
set_option maxHeartbeats 2000000 in
theorem parted_c (a : Option Addr) (cap : Nat) (es : List Em) (w : World) (hE : Ems w.heap.size w a es) :
    Calls Tryd.prog 65 #[.slice a es.length cap] w fun e w' => e = .returned (.bool (partB true es)) ∧ Below w.heap.size w w' := by
  have h1 := hE.1
  go_enter Tryd.func65, Tryd.ntmps65
  go_wp2_with fail
  go_loopw [8, 3] (fun i q wr => ∃ (k : Nat) (m : Bool), k ≤ es.length ∧ i = .int .i64 k ∧ q = .bool m ∧ Hid (partK true (es.take k) = some m) ∧ Below w.heap.size w wr) (fun i _ _ => es.length - (intOf i).toNat)
  case atStart => exact ⟨0, true, Nat.zero_le _, rfl, rfl, hide rfl, Below.refl _ _⟩
  case round =>
    obtain ⟨k, m, hk, rfl, rfl, hp, hb⟩ := hrel
    by_cases hlt : k < es.length
    · obtain ⟨e, he⟩ : ∃ e, es[k]? = some e := ⟨_, List.getElem?_eq_getElem hlt⟩
      obtain ⟨b, off, p, ea, hbn, hcs, -⟩ := hE.at he
      have htk := hide (show partK true (es.take (k + 1)) = if m && e.nt then none else some e.nt by
        have e1 : es.take (k + 1) = es.take k ++ [e] := by rw [List.take_succ_eq_append_getElem hlt]; simp [List.getElem?_eq_getElem hlt] at he; rw [he]
        rw [e1, partK_snoc, unhide hp]; rfl)
      replace hcs : ∀ (i : Nat) u, (e.cs p)[i]? = some u → wr.cell? ⟨b, off + k * 11 + i, none⟩ = some u := fun i u hu => (hb.cell (p := ⟨b, off + k * 11 + i, none⟩) hbn).trans (hcs i u hu)
      have hd0 := hcs 0 _ rfl
      have hd1 := hcs 1 _ rfl
      have hd2 := hcs 2 _ rfl
      have hd3 := hcs 3 _ rfl
      have hd4 := hcs 4 _ rfl
      have hd5 := hcs 5 _ rfl
      have hd6 := hcs 6 _ rfl
      have hd7 := hcs 7 _ rfl
      have hd8 := hcs 8 _ rfl
      have hd9 := hcs 9 _ rfl
      have hd10 := hcs 10 _ rfl
      rw [Nat.add_zero] at hd0
      clear hcs he
      subst ea
      obtain ⟨Wk, hWk⟩ : ∃ Wk, Wk = wr.alloc (.cells (e.cs p) 42) := ⟨_, rfl⟩
      have bk : Below wr.heap.size wr Wk := by rw [hWk]; exact (Below.refl _ _).alloc (Nat.le_refl _) _
      have xk : Box Wk wr.heap.size 42 (e.cs p) := by rw [hWk]; exact Box.new _ _ _
      have hkl : (k : Int) < es.length := by omega
      have bE := hb.trans (bk.mono hb.size)
      replace hE := hide hE
      go_upto_region 5 with fail
      rw [← hWk]
      clear hWk hd0 hd1 hd2 hd3 hd4 hd5 hd6 hd7 hd8 hd9 hd10
      obtain ⟨q0, q1, q2, q3, -⟩ := xk.eleven
      cases hmm : m <;> cases hnn : e.nt
      all_goals rw [hmm, hnn] at htk
      all_goals rw [hnn] at q3
      all_goals try
        (go_wp2_with fail
         go_roundw
         case rel => exact ⟨k + 1, _, by omega, by go_num, rfl, htk, bE⟩
         case measure => simp [intOf]; omega)
      have hno := hide (partK_no true es (k + 1) (unhide htk))
      go_wp2_with fail
      go_ret
      exact ⟨by rw [unhide hno]; rfl, bE⟩
    · have hke : partB true es = !m := by
        have := unhide hp
        rw [List.take_of_length_le (by omega)] at this
        rw [partB_of, this]
      replace hke := hide hke
      go_wp2_with fail
      go_ret
      exact ⟨by rw [unhide hke]; rfl, hb⟩

theorem aliased_c (s : ByteArray) (w : World) : Calls Tryd.prog 68 #[.string s] w fun e w' => e = .returned (.func (.func 81) #[] #[.pointer (some ⟨w.heap.size, 0, none⟩)]) ∧ w' = w.alloc (.cells #[.string s] 9) := by
  go_enter Tryd.func68, Tryd.ntmps68
  go_wp2
  go_ret
  exact ⟨rfl, rfl⟩

set_option maxHeartbeats 1000000 in
theorem aliased1_c (B : Nat) (s : ByteArray) (e : Em) (p : Pl) (w : World) (hB : Box w B 9 #[.string s]) : Calls Tryd.prog 81 #[e.v p, .pointer (some ⟨B, 0, none⟩)] w fun r w' => r = .returned (.bool (e.al.1.toList == s.toList)) ∧ Below w.heap.size w w' := by
  have hb0 : Below w.heap.size w (w.alloc (.cells (e.cs p) 42)) := (Below.refl _ _).alloc (Nat.le_refl _) _
  have hc := (hB.on hb0 hB.lt).one.1
  have hl := hB.lt
  cases hq : (e.al.1.toList == s.toList)
  all_goals
    go_enter Tryd.func81, Tryd.ntmps81
    go_wp2_with fail
    go_ret
    refine ⟨?_, hb0⟩
    rfl

/-- Some element has that alias. -/
def anyAl (es : List Em) (s : ByteArray) : Bool := es.any fun e => e.al.1.toList == s.toList

set_option maxRecDepth 100000 in
set_option maxHeartbeats 2000000 in
theorem indexE_c (a : Option Addr) (cap B : Nat) (s : ByteArray) (es : List Em) (w : World) (hE : Ems w.heap.size w a es) (hB : Box w B 9 #[.string s]) :
    Calls Tryd.prog 80 #[.slice a es.length cap, .func (.func 81) #[] #[.pointer (some ⟨B, 0, none⟩)]] w fun r w' => (∃ i : Int, r = .returned (.int .i64 i) ∧ decide (0 ≤ i) = anyAl es s) ∧ Below w.heap.size w w' := by
  have h1 := hE.1
  go_enter Tryd.func80, Tryd.ntmps80
  go_wp2_with fail
  go_loopw [8] (fun i wr => ∃ k : Nat, k ≤ es.length ∧ i = .int .i64 k ∧ Hid (anyAl (es.take k) s = false) ∧ Below w.heap.size w wr) (fun i _ => es.length - (intOf i).toNat)
  case atStart => exact ⟨0, Nat.zero_le _, rfl, hide (by simp [anyAl]), Below.refl _ _⟩
  case round =>
    obtain ⟨k, hk, rfl, hp, hb⟩ := hrel
    by_cases hlt : k < es.length
    · obtain ⟨e, he⟩ : ∃ e, es[k]? = some e := ⟨_, List.getElem?_eq_getElem hlt⟩
      obtain ⟨b, off, p, ea, hbn, hcs, -⟩ := hE.at he
      have htk := hide (show anyAl (es.take (k + 1)) s = (e.al.1.toList == s.toList) by
        have e1 : es.take (k + 1) = es.take k ++ [e] := by rw [List.take_succ_eq_append_getElem hlt]; simp [List.getElem?_eq_getElem hlt] at he; rw [he]
        have := unhide hp
        unfold anyAl at this ⊢
        rw [e1, List.any_append, this]; simp)
      have hmem := hide (List.mem_of_getElem? he)
      replace hcs : ∀ (i : Nat) u, (e.cs p)[i]? = some u → wr.cell? ⟨b, off + k * 11 + i, none⟩ = some u := fun i u hu => (hb.cell (p := ⟨b, off + k * 11 + i, none⟩) hbn).trans (hcs i u hu)
      have hd0 := hcs 0 _ rfl
      have hd1 := hcs 1 _ rfl
      have hd2 := hcs 2 _ rfl
      have hd3 := hcs 3 _ rfl
      have hd4 := hcs 4 _ rfl
      have hd5 := hcs 5 _ rfl
      have hd6 := hcs 6 _ rfl
      have hd7 := hcs 7 _ rfl
      have hd8 := hcs 8 _ rfl
      have hd9 := hcs 9 _ rfl
      have hd10 := hcs 10 _ rfl
      rw [Nat.add_zero] at hd0
      clear hcs he
      subst ea
      have cA := hide (aliased1_c B s e p wr (hB.on hb hB.lt))
      have hkl : (k : Int) < es.length := by omega
      have hk0 : (0 : Int) ≤ k := by omega
      replace hE := hide hE
      go_wp2_with fail
      refine (unhide cA).mono ?_
      rintro r w2 ⟨rfl, hb2⟩
      clear cA hd0 hd1 hd2 hd3 hd4 hd5 hd6 hd7 hd8 hd9 hd10
      have bE := hb.trans (hb2.mono hb.size)
      cases hq : (e.al.1.toList == s.toList)
      · rw [hq] at htk
        go_wp2_with fail
        go_roundw
        case rel => exact ⟨k + 1, by omega, by go_num, htk, bE⟩
        case measure => simp [intOf]; omega
      · have hyes := hide (show anyAl es s = true from List.any_eq_true.2 ⟨e, unhide hmem, hq⟩)
        go_wp2_with fail
        go_ret
        exact ⟨⟨k, rfl, by rw [unhide hyes]; simp⟩, bE⟩
    · have hke : anyAl es s = false := by
        have := unhide hp
        rwa [List.take_of_length_le (by omega)] at this
      replace hke := hide hke
      go_wp2_with fail
      go_ret
      exact ⟨⟨-1, rfl, by rw [unhide hke]; simp⟩, hb⟩

theorem containsE_c (a : Option Addr) (cap B : Nat) (s : ByteArray) (es : List Em) (w : World) (hE : Ems w.heap.size w a es) (hB : Box w B 9 #[.string s]) :
    Calls Tryd.prog 67 #[.slice a es.length cap, .func (.func 81) #[] #[.pointer (some ⟨B, 0, none⟩)]] w fun r w' => r = .returned (.bool (anyAl es s)) ∧ Below w.heap.size w w' := by
  have cI := hide (indexE_c a cap B s es w hE hB)
  go_enter Tryd.func67, Tryd.ntmps67
  go_wp2_with fail
  refine (unhide cI).mono ?_
  rintro r w2 ⟨⟨i, rfl, hi⟩, hb2⟩
  cases hq : anyAl es s
  all_goals
    rw [hq] at hi
    replace hi := hide hi
    have hi' := unhide hi
    simp only [decide_eq_true_eq, decide_eq_false_iff_not] at hi'
    go_wp2_with fail
    go_ret
    exact ⟨by first | rfl | simp_all, hb2⟩

end Go.Proofs.YtfofpenajkaalaaDoor
