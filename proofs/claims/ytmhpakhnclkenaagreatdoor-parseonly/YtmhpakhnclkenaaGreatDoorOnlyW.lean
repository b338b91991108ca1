/-
  What package pasternlaw9's ParseOnly does, where the reader gives back what is shown.
  The numbers in what the reader makes are of 64 bits.
  Numbers written in decimal, as plain lists: what is cut of them.
  A text that is written of words: what is cut of it are these words.
  What package parse reads of a text that is written of words: these words.
  A condition's text is written of words, and the reader gives the condition back.
  A condition's text is written of words: which, and that each is ended by what follows.
  The reader gives a condition back that is written of words.
  A pattern's text is written of words.
  The reader gives back what is shown: conditions, patterns.
  The reader gives back what is shown: what ParseOnly's walk asks for, and the walk with it.
-/
import Derived.Test.YtmhpakhnclkenaaGreatDoorKnown9
import Derived.Test.YtmhpakhnclkenaaGreatDoorSameP
import Derived.Test.YtmhpakhnclkenaaGreatDoorParX
import Derived.Test.YtmhpakhnclkenaaGreatDoorFaces
import Derived.Test.YtmhpakhnclkenaaGreatDoorWFirst
import Derived.Test.YtmhpakhnclkenaaGreatDoorParG
import Derived.Test.YtmhpakhnclkenaaGreatDoorParW
namespace Go.Proofs.YtmhpakhnclkenaaGreatDoor
open Go.RowKit Go.Shelf

attribute [local go_sem] Oper.semAt_some

mutual
theorem sameT_self : ∀ t : Tree, sameT t t = true
  | .mk d ks => by simp [sameT, sameD, sameL_self ks]
theorem sameL_self : ∀ ks : List Tree, sameL ks ks = true
  | [] => by simp [sameL]
  | t :: ks => by simp [sameL, sameT_self t, sameL_self ks]
end
theorem allZ_self {α : Type} {f : α → α → Bool} (h : ∀ x, f x x = true) : ∀ l : List α, allZ f l l = true
  | [] => rfl
  | x :: l => by simp [allZ, h x, allZ_self h l]
theorem sameE_self (x : Em) : sameE x x = true := by simp [sameE, sameTx, allZ_self, sameT_self]
theorem samePt_self (p : Pt) : samePt p p = true := by simp [samePt, allZ_self sameE_self]

theorem patF_bad {s : Ps} {q : Pt} {e : Int} (h : patF s = (q, e)) (he : e ≠ 0) : q = q0 := by
  unfold patF at h
  simp only at h
  split at h
  · cases h; exact absurd rfl he
  · cases h; rfl
theorem fail_ne (s : Ps) : (s.fail 10).er ≠ 0 := by
  unfold Ps.fail; simp only; split
  · decide
  · assumption
theorem patF_good {s : Ps} {q : Pt} (h : patF s = (q, 0)) : patB q = true := by
  unfold patF at h
  simp only at h
  split at h
  · rename_i hz
    cases h
    cases hb : patB (patternQ s).1
    · rw [hb] at hz; exact absurd hz (fail_ne _)
    · rfl
  · rename_i hz; exact absurd (Prod.mk.inj h).2 hz

set_option maxRecDepth 100000 in
set_option maxHeartbeats 8000000 in
theorem only4_c (hBnd : ∀ (s : ByteArray) (e : Em), e ∈ (patF (readP s)).1.es → Bnd e.t) (hRT : ∀ s, (patF (readP s)).2 = 0 → patF (readP (pattB (patF (readP s)).1)) = ((patF (readP s)).1, 0))
    (s : ByteArray) (W : World) (h9 : V9 W) : Calls Tryz.prog 4 #[.string s] W fun r W' => r = .returned (.bool true) ∧ Below W.heap.size W W' := by
  have CK := hide (known7_c W h9)
  by_cases hs : s.size ≤ 600
  case neg =>
    have hs' : (600 : Int) < s.size := by omega
    go_enter Tryz.func4, Tryz.ntmps4
    go_wp2_with fail
    refine (unhide CK).mono ?_
    rintro r W1 ⟨rfl, b1⟩
    go_wp2_with fail
    go_ret
    exact ⟨rfl, b1⟩
  have hs' : ¬ (600 : Int) < s.size := by omega
  have hbd := hBnd s
  have hrt := hRT s
  have hes0 := patternQ_es (readP s)
  obtain ⟨q, e, hq⟩ : ∃ q e, patF (readP s) = (q, e) := ⟨_, _, rfl⟩
  have cP := fun (U : World) (h : V9 U) => parseP_c s (by omega) U h.v h.s h.p
  rw [hq] at cP hbd hrt
  simp only at cP hbd hrt
  have hbad := fun h => patF_bad hq h
  have hgood : e = 0 → patB q = true := fun h => by rw [h] at hq; exact patF_good hq
  clear hq hes0 hBnd hRT hs
  have CP := hide cP
  replace h9 := hide h9
  clear cP
  by_cases he : e = 0
  · subst he
    have hpb := hgood rfl
    obtain ⟨hPG, hlen⟩ := pat_good hbd hpb
    have hts : (pattB q).size ≤ 1000000 := by rw [pattB_yes hpb, txtB_size]; omega
    have hel : q.es.length ≤ 5 := hPG.2.1
    have cR := fun (U : World) (h : V9 U) => parseP_c (pattB q) hts U h.v h.s h.p
    rw [hrt rfl, errO_zero] at cR
    simp only at cR
    rw [errO_zero] at CP
    have CR := hide cR
    have HBD := hide hbd
    have HPB := hide hpb
    have HEL := hide hel
    clear cR hrt hbad hgood hbd hpb hPG hlen hts hel
    obtain ⟨es, wi, nm, an⟩ := q
    go_enter Tryz.func4, Tryz.ntmps4
    go_wp2_with fail
    refine (unhide CK).mono ?_
    rintro r W1 ⟨rfl, b1⟩
    have C1 := hide (unhide CP W1 ((unhide h9).on b1))
    replace h9 := hide ((unhide h9).on b1)
    go_wp2_with fail
    refine (unhide C1).mono ?_
    rintro r W2 ⟨v, rfl, ⟨a, c, rfl, hm, hc⟩, b2⟩
    obtain ⟨X2, hX2⟩ : ∃ X, X = W2.alloc (.cells #[.slice a es.length c, .int .i64 wi, .string nm.1, .bool an] 36) := ⟨_, rfl⟩
    have d2 : Below W2.heap.size W2 X2 := by rw [hX2]; exact (Below.refl _ _).alloc (Nat.le_refl _) _
    have p2 : Box X2 W2.heap.size 36 #[.slice a es.length c, .int .i64 wi, .string nm.1, .bool an] := by rw [hX2]; exact Box.new _ _ _
    have hE2 : Ems X2.heap.size X2 a es := (hm.ems (Nat.le_refl _) (by have := unhide HEL; simp only at this ⊢; omega)).on d2
    have V2 := hide (((unhide h9).on b2).on d2)
    have BB := hide ((b1.trans (b2.mono b1.size)).trans (d2.mono (b1.trans (b2.mono b1.size)).size))
    have cS := refShowP_c ⟨es, wi, nm, an⟩ a c (unhide HBD) X2 hE2
    have CS := hide cS
    have P2 := hide p2
    have E2 := hide hE2
    obtain ⟨t0, t1, t2, t3⟩ := p2.four
    clear CP C1 CK h9 hm hc b1 b2 d2 cS p2 hE2
    go_upto_region 8 with fail
    rw [← hX2]
    clear hX2
    go_wp2_with fail
    refine (unhide CS).mono ?_
    rintro r W3 ⟨rfl, b3⟩
    have C3 := hide (unhide CR W3 ((unhide V2).on b3))
    clear CS CR t0 t1 t2 t3
    go_wp2_with fail
    refine (unhide C3).mono ?_
    rintro r W4 ⟨v, rfl, ⟨a4, c4, rfl, hm4, hc4⟩, b4⟩
    obtain ⟨X4, hX4⟩ : ∃ X, X = W4.alloc (.cells #[.slice a4 es.length c4, .int .i64 wi, .string nm.1, .bool an] 36) := ⟨_, rfl⟩
    have d4 : Below W4.heap.size W4 X4 := by rw [hX4]; exact (Below.refl _ _).alloc (Nat.le_refl _) _
    have p4 : Box X4 W4.heap.size 36 #[.slice a4 es.length c4, .int .i64 wi, .string nm.1, .bool an] := by rw [hX4]; exact Box.new _ _ _
    have hE4 : Ems X4.heap.size X4 a4 es := (hm4.ems (Nat.le_refl _) (by have := unhide HEL; simp only at this ⊢; omega)).on d4
    have b34 := b3.trans ((b4.mono b3.size).trans (d4.mono (b3.trans (b4.mono b3.size)).size))
    have p2' := (unhide P2).on b34 (unhide P2).lt
    have hE2' := (unhide E2).on b34
    have B4 := hide ((unhide BB).trans (b34.mono (unhide BB).size))
    have cB := refPat_c ⟨es, wi, nm, an⟩ a c X4 hE2'
    rw [unhide HPB] at cB
    have CB := hide cB
    have P2' := hide p2'
    have P4 := hide p4
    have E2' := hide hE2'
    have E4 := hide hE4
    obtain ⟨t0, t1, t2, t3⟩ := p2'.four
    clear C3 P2 E2 BB hm4 hc4 b3 b4 d4 p4 hE4 b34 p2' hE2' cB V2 HBD HPB HEL
    go_upto_region 9 with fail
    rw [← hX4]
    clear hX4
    go_wp2_with fail
    refine (unhide CB).mono ?_
    rintro r W5 ⟨rfl, b5⟩
    have p2' := (unhide P2').on b5 (unhide P2').lt
    have p4 := (unhide P4).on b5 (unhide P4).lt
    have cQ := refPatt_c ⟨es, wi, nm, an⟩ ⟨es, wi, nm, an⟩ a a4 c c4 W5 ((unhide E2').on b5) ((unhide E4).on b5)
    rw [samePt_self] at cQ
    have CQ := hide cQ
    have B5 := hide ((unhide B4).trans (b5.mono (unhide B4).size))
    clear t0 t1 t2 t3 P2' P4 E2' E4 CB B4 b5 cQ
    obtain ⟨t0, t1, t2, t3⟩ := p2'.four
    obtain ⟨u0, u1, u2, u3⟩ := p4.four
    clear p2' p4
    go_wp2_with fail
    refine (unhide CQ).mono ?_
    rintro r W6 ⟨rfl, b6⟩
    go_wp2_with fail
    go_ret
    exact ⟨rfl, (unhide B5).trans (b6.mono (unhide B5).size)⟩
  · have hqq := hbad he
    subst hqq
    rw [errO_ne he] at CP
    clear hbad hgood hbd hrt
    replace he := hide he
    go_enter Tryz.func4, Tryz.ntmps4
    go_wp2_with fail
    refine (unhide CK).mono ?_
    rintro r W1 ⟨rfl, b1⟩
    have C1 := hide (unhide CP W1 ((unhide h9).on b1))
    go_wp2_with fail
    refine (unhide C1).mono ?_
    rintro r W2 ⟨v, rfl, ⟨a, c, rfl, -, -⟩, b2⟩
    obtain ⟨X2, hX2⟩ : ∃ X, X = W2.alloc (.cells #[.slice a 0 c, .int .i64 0, .string ⟨#[]⟩, .bool false] 36) := ⟨_, rfl⟩
    have d2 : Below W2.heap.size W2 X2 := by rw [hX2]; exact (Below.refl _ _).alloc (Nat.le_refl _) _
    have p2 : Box X2 W2.heap.size 36 #[.slice a 0 c, .int .i64 0, .string ⟨#[]⟩, .bool false] := by rw [hX2]; exact Box.new _ _ _
    have BB := hide ((b1.trans (b2.mono b1.size)).trans (d2.mono (b1.trans (b2.mono b1.size)).size))
    have cQ := refPatt_c q0 q0 a none c 0 X2 ⟨by decide, .inl rfl⟩ ⟨by decide, .inl rfl⟩
    rw [samePt_self] at cQ
    have CQ := hide cQ
    obtain ⟨t0, t1, t2, t3⟩ := p2.four
    clear C1 CP CK h9 b1 b2 d2 p2 cQ
    go_upto_region 7 with fail
    rw [← hX2]
    clear hX2
    go_wp2_with fail
    refine (unhide CQ).mono ?_
    rintro r W3 ⟨rfl, b3⟩
    go_wp2_with fail
    go_ret
    exact ⟨rfl, (unhide BB).trans (b3.mono (unhide BB).size)⟩
end Go.Proofs.YtmhpakhnclkenaaGreatDoor

namespace Go.Proofs.YtmhpakhnclkenaaGreatDoor
open Go.RowKit Go.Shelf

/-- What one reader has left is among what the other has. -/
structure Ps.le (s' s : Ps) : Prop where
  mem : ∀ w, w ∈ s'.rest → w ∈ s.rest
theorem Ps.le_refl (s : Ps) : s.le s := ⟨fun _ h => h⟩
theorem Ps.le.le_trans {a b c : Ps} (h : a.le b) (k : b.le c) : a.le c := ⟨fun w hw => k.mem w (h.mem w hw)⟩
theorem fail_le (s : Ps) (e : Int) : (s.fail e).le s := ⟨fun _ hw => by simp [Ps.fail] at hw⟩
theorem tl_le (s : Ps) : s.tl.le s := ⟨fun _ hw => List.mem_of_mem_tail hw⟩
theorem takeP_le (s : Ps) (k : Int) : (takeP s k).2.le s := by
  unfold takeP; split
  · exact tl_le s
  · exact fail_le s 10
theorem eatP_le (s : Ps) (t : ByteArray) : (eatP s t).2.le s := by
  unfold eatP; split
  · exact tl_le s
  · exact Ps.le_refl s
theorem must1_le (s : Ps) (t : ByteArray) : (must1 s t).le s := by
  unfold must1; split
  · exact tl_le s
  · exact fail_le s 10
theorem mustP_le (l : List ByteArray) : ∀ s : Ps, (mustP s l).le s := by
  induction l with
  | nil => exact Ps.le_refl
  | cons t l ih => intro s; exact (ih (must1 s t)).le_trans (must1_le s t)
theorem opF_le : ∀ (l : List ByteArray) (i : Int) (s : Ps), (opF l i s).2.le s
  | [], _, s => fail_le s 10
  | t :: r, i, s => by
    unfold opF; split
    · exact tl_le s
    · exact opF_le r (i + 1) s
/-- The numbers of the words that are left are of 64 bits. -/
def NB (s : Ps) : Prop := ∀ w, w ∈ s.rest → -9223372036854775808 ≤ w.n ∧ w.n ≤ 9223372036854775807
theorem NB.le {s' s : Ps} (h : NB s) (k : s'.le s) : NB s' := fun w hw => h w (k.mem w hw)
theorem zlo : (-9223372036854775808 : Int) ≤ 0 := by decide
theorem zhi : (0 : Int) ≤ 9223372036854775807 := by decide
theorem NB.head {s : Ps} (h : NB s) : -9223372036854775808 ≤ s.head.n ∧ s.head.n ≤ 9223372036854775807 := by
  unfold Ps.head
  cases hr : s.rest with
  | nil => exact ⟨by decide, by decide⟩
  | cons w r => exact h w (by rw [hr]; simp)
theorem bnd_leaf (d : Dat) (h0 : -9223372036854775808 ≤ d.n) (h1 : d.n ≤ 9223372036854775807) : Bnd (.mk d []) := .mk d [] h0 h1 (fun j t h => by simp at h)
theorem bnd_e0 : Bnd e0 := bnd_leaf d0 (by decide) (by decide)
theorem litV_n {w : Pw} (h : -9223372036854775808 ≤ w.n ∧ w.n ≤ 9223372036854775807) : -9223372036854775808 ≤ (litV w).2.1 ∧ (litV w).2.1 ≤ 9223372036854775807 := by
  unfold litV
  split
  · exact h
  · split
    · exact ⟨zlo, zhi⟩
    · split
      · exact ⟨by decide, by decide⟩
      · split <;> exact ⟨by decide, by decide⟩
theorem nodeF_bnd : ∀ (f : Nat) (d : Int) (s : Ps), NB s → Bnd (nodeF f d s).1 ∧ (nodeF f d s).2.le s
  | 0, _, s, _ => ⟨bnd_e0, Ps.le_refl s⟩
  | f + 1, d, s, h => by
    have hs : Ps.le ⟨s.rest, s.nd + 1, s.er⟩ s := ⟨fun _ hw => hw⟩
    unfold nodeF
    split
    · exact ⟨bnd_e0, fail_le s 10⟩
    split
    · exact ⟨bnd_e0, ⟨fun _ hw => by simp [Ps.fail] at hw⟩⟩
    split
    · exact ⟨bnd_leaf _ (litV_n h.head).1 (litV_n h.head).2, (takeP_le _ _).le_trans hs⟩
    split
    · exact ⟨bnd_leaf _ zlo zhi, ((takeP_le _ _).le_trans ((mustP_le _ _).le_trans (takeP_le _ _))).le_trans hs⟩
    have h2 : Ps.le (mustP ⟨s.rest, s.nd + 1, s.er⟩ [oB]) s := (mustP_le _ _).le_trans hs
    simp only
    split
    · have k3 : Ps.le (mustP ⟨s.rest, s.nd + 1, s.er⟩ [oB]).tl s := (tl_le _).le_trans h2
      obtain ⟨i1, i2⟩ := nodeF_bnd f (d + 1) _ (h.le k3)
      refine ⟨.mk _ _ (by show (-9223372036854775808 : Int) ≤ 0; decide) (by show (0 : Int) ≤ 9223372036854775807; decide) fun j t ht => ?_, (mustP_le _ _).le_trans (i2.le_trans k3)⟩
      cases j with
      | zero => simp at ht; rw [← ht]; exact i1
      | succ j => simp at ht
    · obtain ⟨i1, i2⟩ := nodeF_bnd f (d + 1) _ (h.le h2)
      have k3 := i2.le_trans h2
      have k4 := (opF_le psigns 3 (nodeF f (d + 1) (mustP ⟨s.rest, s.nd + 1, s.er⟩ [oB])).2).le_trans k3
      obtain ⟨j1, j2⟩ := nodeF_bnd f (d + 1) _ (h.le k4)
      refine ⟨.mk _ _ (by show (-9223372036854775808 : Int) ≤ 0; decide) (by show (0 : Int) ≤ 9223372036854775807; decide) fun j t ht => ?_, (mustP_le _ _).le_trans (j2.le_trans k4)⟩
      match j, ht with
      | 0, ht => simp at ht; rw [← ht]; exact i1
      | 1, ht => simp at ht; rw [← ht]; exact j1
      | j + 2, ht => simp at ht
theorem condF_bnd (s : Ps) (h : NB s) : Bnd (condF s).1 ∧ (condF s).2.le s := by
  obtain ⟨a, b⟩ := nodeF_bnd 6 1 ⟨s.rest, 0, s.er⟩ h
  exact ⟨a, ⟨b.mem⟩⟩
theorem partsF_bnd {α : Type} (p : Ps → α × Ps) (t : ByteArray) (Q : α → Prop) (hp : ∀ s, NB s → Q (p s).1 ∧ (p s).2.le s) : ∀ (f : Nat) (s : Ps), NB s → (∀ x ∈ (partsF p t f s).1, Q x) ∧ (partsF p t f s).2.le s
  | 0, s, _ => ⟨fun x hx => by simp [partsF] at hx, Ps.le_refl s⟩
  | f + 1, s, h => by
    obtain ⟨h1, h2⟩ := hp s h
    unfold partsF
    split
    · have k := (tl_le (p s).2).le_trans h2
      obtain ⟨i1, i2⟩ := partsF_bnd p t Q hp f _ (h.le k)
      refine ⟨fun x hx => ?_, i2.le_trans k⟩
      rw [List.mem_cons] at hx
      rcases hx with rfl | hx
      · exact h1
      · exact i1 x hx
    · exact ⟨fun x hx => by rw [List.mem_singleton] at hx; rw [hx]; exact h1, h2⟩
theorem elemQ_bnd (s : Ps) (h : NB s) : Bnd (elemQ s).1.t ∧ (elemQ s).2.le s := by
  have k1 := eatP_le s bgB
  have k2 : Ps.le (nameP (eatP s bgB).2).2 s := (takeP_le _ 1).le_trans k1
  have k3 := (mustP_le [clnB] (nameP (eatP s bgB).2).2).le_trans k2
  obtain ⟨-, i⟩ := partsF_bnd nameP brB (fun _ => True) (fun s _ => ⟨trivial, takeP_le s 1⟩) ((mustP (nameP (eatP s bgB).2).2 [clnB]).rest.length + 1) _ (h.le k3)
  have k4 := i.le_trans k3
  have k5 := (eatP_le _ psB).le_trans k4
  have k6 := (eatP_le _ sqoB).le_trans k5
  obtain ⟨c1, c2⟩ := condF_bnd _ (h.le k6)
  unfold elemQ
  simp only
  split
  · exact ⟨c1, (mustP_le _ _).le_trans (c2.le_trans k6)⟩
  · exact ⟨bnd_e0, k6⟩
theorem patternQ_bnd (s : Ps) (h : NB s) : ∀ e ∈ (patternQ s).1.es, Bnd e.t := by
  have k1 := mustP_le [seB, oB] s
  exact (partsF_bnd elemQ cmB (fun e => Bnd e.t) elemQ_bnd _ _ (h.le k1)).1
theorem fixW_n (x : Pw × ByteArray) : (fixW x).n = x.1.n := by
  unfold fixW
  generalize (decide (x.1.k = 2) && !(x.2.toList == (valB 1 x.1.n ⟨#[]⟩).toList)) = b
  cases b <;> rfl
theorem readP_nb (s : ByteArray) : NB (readP s) := fun w hw => by
  simp only [readP, List.mem_map] at hw
  obtain ⟨x, hx, rfl⟩ := hw
  obtain ⟨i, hi⟩ := List.mem_iff_getElem?.1 hx
  rw [pairsP, List.getElem?_mapIdx] at hi
  obtain ⟨v, hv, e⟩ := Option.map_eq_some_iff.1 hi
  have hn := wordsP_n (List.mem_of_getElem? hv)
  rw [fixW_n, ← e]
  exact hn
theorem patF_bndS (r : Ps) (h : NB r) : ∀ e ∈ (patF r).1.es, Bnd e.t := by
  have hp := patternQ_bnd r h
  unfold patF
  simp only
  generalize patternQ r = z at hp ⊢
  split
  · exact hp
  · intro e he; simp at he
theorem patF_bnd (s : ByteArray) : ∀ e ∈ (patF (readP s)).1.es, Bnd e.t := patF_bndS (readP s) (readP_nb s)
end Go.Proofs.YtmhpakhnclkenaaGreatDoor

namespace Go.Proofs.YtmhpakhnclkenaaGreatDoor
open Go.RowKit Go.Shelf

theorem digC_val (d : Nat) (h : d < 10) : (digC d).toNat = 48 + d := by rw [digC, UInt8.toNat_ofNat']; omega
/-- What digits spell, behind what was spelled. -/
def valL (acc : Nat) (l : List UInt8) : Nat := l.foldl (fun a c => a * 10 + (c.toNat - 48)) acc
theorem valL_append (acc : Nat) (a b : List UInt8) : valL acc (a ++ b) = valL (valL acc a) b := List.foldl_append ..
theorem valL_ge (l : List UInt8) : ∀ acc, acc ≤ valL acc l := by
  induction l with
  | nil => intro acc; exact Nat.le_refl _
  | cons c r ih =>
    intro acc
    refine Nat.le_trans ?_ (ih (acc * 10 + (c.toNat - 48)))
    omega
theorem natL_digits (n : Nat) : allB 48 57 (natL n) = true := by
  induction n using natL.induct with
  | case1 n h => rw [natL_small h]; simp [allB, inB, digC_val n h]; omega
  | case2 n h ih =>
    rw [natL_big h, allB, List.all_append]
    rw [allB] at ih
    rw [ih]
    have := digC_val (n % 10) (Nat.mod_lt _ (by decide))
    simp [inB, this]; omega
theorem natL_val (n : Nat) : valL 0 (natL n) = n := by
  induction n using natL.induct with
  | case1 n h => rw [natL_small h]; simp [valL, digC_val n h]
  | case2 n h ih =>
    rw [natL_big h, valL_append, ih]
    have := digC_val (n % 10) (Nat.mod_lt _ (by decide))
    simp [valL, this]; omega
theorem natL_ne (n : Nat) : natL n ≠ [] := by
  by_cases h : n < 10
  · rw [natL_small h]; simp
  · rw [natL_big h]; simp

theorem parseM_ok : ∀ (l : List UInt8) (acc : Nat), allB 48 57 l = true → valL acc l ≤ 9223372036854775808 → Lib.parseUintM (2 ^ 64 - 1) acc l = .ok (valL acc l)
  | [], _, _, _ => rfl
  | c :: r, acc, h, hv => by
    simp only [allB, List.all_cons, Bool.and_eq_true] at h
    have hc : 48 ≤ c.toNat ∧ c.toNat ≤ 57 := by have := h.1; simp [inB] at this; omega
    have he : valL acc (c :: r) = valL (acc * 10 + (c.toNat - 48)) r := rfl
    have hg := valL_ge r (acc * 10 + (c.toNat - 48))
    rw [he] at hv ⊢
    rw [Lib.parseUintM, if_pos hc, if_neg (by omega), if_neg (by omega)]
    exact parseM_ok r _ h.2 hv
theorem parseB_nat (n : Nat) (hn : n ≤ 9223372036854775808) : Lib.parseUintB 64 (natL n) = .ok n := by
  rw [Lib.parseUintB, if_neg (natL_ne n), parseM_ok _ _ (natL_digits n) (by rw [natL_val]; exact hn), natL_val]
theorem digit_head {l : List UInt8} {c : UInt8} {r : List UInt8} (h : allB 48 57 l = true) (e : l = c :: r) : 48 ≤ c.toNat ∧ c.toNat ≤ 57 := by
  rw [e] at h
  simp only [allB, List.all_cons, Bool.and_eq_true] at h
  have := h.1
  simp [inB] at this; omega
theorem parseI_pos (n : Nat) (hn : n < 9223372036854775808) : Lib.parseIntB 64 (natL n) = .ok (n : Int) := by
  have hb := parseB_nat n (by omega)
  cases e : natL n with
  | nil => exact absurd e (natL_ne n)
  | cons c r =>
    have hc := digit_head (natL_digits n) e
    rw [e] at hb
    simp only [Lib.parseIntB]
    rw [if_neg (by omega), hb]
    simp only
    rw [if_neg (by omega), if_neg (by omega), if_neg (by omega)]
theorem parseI_neg (n : Nat) (hn : n ≤ 9223372036854775808) : Lib.parseIntB 64 (45 :: natL n) = .ok (-(n : Int)) := by
  have hb := parseB_nat n hn
  simp only [Lib.parseIntB]
  rw [if_pos (by decide), hb]
  simp only
  rw [if_neg (by simp), if_neg (by have : ¬ 2 ^ (64 - 1) < n := by omega
                                   simp; omega), if_pos (by decide)]

theorem leadL_nat (n : Nat) : leadL 48 57 (natL n) = natL n := leadL_whole (natL_digits n)
theorem firstW_pos (n : Nat) (hn : n < 9223372036854775808) : firstW (natL n) = .word 2 [] n (natL n).length := by
  cases e : natL n with
  | nil => exact absurd e (natL_ne n)
  | cons c r =>
    have hc := digit_head (natL_digits n) e
    have h45 : ¬ (c = 45) := by rintro rfl; revert hc; decide
    have h1 : inB 97 122 c.toNat = false := by simp [inB]; omega
    have h2 : inB 65 90 c.toNat = false := by simp [inB]; omega
    have h3 : isNumL (c :: r) = true := by simp [isNumL, h45, inB]; omega
    rw [firstW_num (c :: r) c rfl h1 h2 h3, numW, num_take]
    have hm : minusL (c :: r) = 0 := by simp [minusL, h45]
    have hl : leadL 48 57 (c :: r) = c :: r := by rw [← e]; exact leadL_nat n
    have hn2 : numLen (c :: r) = (c :: r).length := by rw [numLen, hm, List.drop_zero, hl]; simp
    rw [hm, List.drop_zero, hl, hn2]
    simp only [List.head?_cons, Option.some.injEq, h45, if_false, List.nil_append]
    rw [← e, parseI_pos n hn]
theorem firstW_neg (n : Nat) (hn : n ≤ 9223372036854775808) : firstW (45 :: natL n) = .word 2 [] (-(n : Int)) (natL n).length.succ := by
  have h1 : inB 97 122 (45 : UInt8).toNat = false := rfl
  have h2 : inB 65 90 (45 : UInt8).toNat = false := rfl
  have h3 : isNumL (45 :: natL n) = true := by
    cases e : natL n with
    | nil => exact absurd e (natL_ne n)
    | cons c r =>
      have hc := digit_head (natL_digits n) e
      simp [isNumL, inB]; omega
  rw [firstW_num _ 45 rfl h1 h2 h3, numW, num_take]
  have hm : minusL (45 :: natL n) = 1 := rfl
  have hn2 : numLen (45 :: natL n) = (natL n).length.succ := by rw [numLen, hm, List.drop_succ_cons, List.drop_zero, leadL_nat]; omega
  rw [hm, List.drop_succ_cons, List.drop_zero, leadL_nat, hn2]
  simp only [List.head?_cons, if_true, List.cons_append, List.nil_append]
  rw [parseI_neg n hn]
theorem cutL_dec (n : Int) (lo : -9223372036854775808 ≤ n) (hi : n ≤ 9223372036854775807) : cutL (decL n) = [.word 2 [] n 0] := by
  show restL 0 (decL n) = _
  unfold decL
  split
  · rename_i h
    have hf := firstW_neg n.natAbs (by omega)
    rw [restL_word 0 (by decide) hf, List.drop_eq_nil_of_le (by simp), restL_nil, show -(n.natAbs : Int) = n by omega]
  · rename_i h
    have hf := firstW_pos n.natAbs (by omega)
    have hd := natL_digits n.natAbs
    cases e : natL n.natAbs with
    | nil => exact absurd e (natL_ne _)
    | cons c r =>
      have hc := digit_head hd e
      rw [e] at hf
      rw [restL_word 0 (by omega) hf, List.drop_eq_nil_of_le (by simp), restL_nil, show (n.natAbs : Int) = n by omega]

theorem numK1 : errL 0 (cutL [57, 50, 50, 51, 51, 55, 50, 48, 51, 54, 56, 53, 52, 55, 55, 53, 56, 48, 56]) = 12 := by decide +kernel
theorem numK2 : errL 0 (cutL [45, 57, 50, 50, 51, 51, 55, 50, 48, 51, 54, 56, 53, 52, 55, 55, 53, 56, 48, 57]) = 12 := by decide +kernel
theorem numK3 : cutL [57, 50, 50, 51, 51, 55, 50, 48, 51, 54, 56, 53, 52, 55, 55, 53, 56, 48, 55] = [.word 2 [] 9223372036854775807 0] := by decide +kernel
theorem numK4 : cutL [45, 57, 50, 50, 51, 51, 55, 50, 48, 51, 54, 56, 53, 52, 55, 55, 53, 56, 48, 56] = [.word 2 [] (-9223372036854775808) 0] := by decide +kernel

end Go.Proofs.YtmhpakhnclkenaaGreatDoor

namespace Go.Proofs.YtmhpakhnclkenaaGreatDoor
open Go.RowKit Go.Shelf

/-- A word to be written. -/
inductive Tk where
  | nm (t : Txt)
  | gr (t : Txt)
  | nu (n : Int)
  | st (t : Txt)
  | sg (t : Txt)
def bl8 (t : Txt) : List UInt8 := t.1.data.toList
def Tk.by : Tk → List UInt8
  | .nm t => bl8 t
  | .gr t => bl8 t
  | .nu n => decL n
  | .st t => 34 :: (flatB (escP (bl8 t)) ++ [34])
  | .sg t => bl8 t
def Tk.k : Tk → Int
  | .nm _ => 1
  | .gr _ => 4
  | .nu _ => 2
  | .st _ => 3
  | .sg _ => 5
def Tk.t : Tk → Txt
  | .nm t => t
  | .gr t => t
  | .nu _ => t0
  | .st t => t
  | .sg t => t
def Tk.n : Tk → Int
  | .nu n => n
  | _ => 0
/-- The signs behind which anything may stand. -/
def softS : List (List UInt8) := [[40], [41], [91], [93], [58], [124], [44], [46], [43], [42], [61]]
def hardS : List (List UInt8) := [[33], [60], [45], [33, 61], [60, 61]]
def Tk.ok : Tk → Prop
  | .nm t => nameB t.1 = true
  | .gr t => allB 65 90 (bl8 t) = true ∧ 1 ≤ (bl8 t).length ∧ (bl8 t).length ≤ 8
  | .nu n => -9223372036854775808 ≤ n ∧ n ≤ 9223372036854775807
  | .st t => isTextB t.1 = true
  | .sg t => bl8 t ∈ softS ∨ bl8 t ∈ hardS
/-- What follows is no letter, no digit. -/
def endW (r : List UInt8) : Prop := ∀ c, r.head? = some c → inB 97 122 c.toNat = false ∧ inB 65 90 c.toNat = false ∧ inB 48 57 c.toNat = false
/-- What follows is a blank or a letter. -/
def endH (r : List UInt8) : Prop := ∃ c, r.head? = some c ∧ (c = 32 ∨ inB 97 122 c.toNat = true)
def Tk.stop : Tk → List UInt8 → Prop
  | .nm _, r => endW r
  | .gr _, r => endW r
  | .nu _, r => endW r
  | .st _, _ => True
  | .sg t, r => bl8 t ∈ softS ∨ endH r

theorem lead_stop {lo hi : Int} {l r : List UInt8} (h : allB lo hi l = true) (hr : ∀ c, r.head? = some c → inB lo hi c.toNat = false) : leadL lo hi (l ++ r) = l := by
  induction l with
  | nil =>
    cases r with
    | nil => rfl
    | cons c r => simp [leadL, hr c rfl]
  | cons c l ih =>
    simp only [allB, List.all_cons, Bool.and_eq_true] at h
    have : leadL lo hi (c :: (l ++ r)) = c :: leadL lo hi (l ++ r) := by simp [leadL, h.1]
    rw [List.cons_append, this, ih h.2]
theorem first_nm (t : Txt) (r : List UInt8) (h : nameB t.1 = true) (hr : endW r) : firstW (bl8 t ++ r) = .word 1 (bl8 t) 0 (bl8 t).length := by
  simp only [nameB, Bool.and_eq_true, decide_eq_true_eq] at h
  obtain ⟨⟨h1, h2⟩, h3⟩ := h
  have hl : (bl8 t).length = t.1.size := Array.length_toList ..
  cases e : bl8 t with
  | nil => rw [e] at hl; simp at hl; omega
  | cons c q =>
    have h3' : allB 97 122 (c :: q) = true := by rw [← e]; exact h3
    have hc : inB 97 122 c.toNat = true := by simp only [allB, List.all_cons, Bool.and_eq_true] at h3'; exact h3'.1
    have hld := lead_stop h3' (fun c hc => (hr c hc).1)
    rw [List.cons_append] at hld
    rw [List.cons_append, firstW]
    rw [if_pos hc, nameW, hld, if_pos (by rw [← e, hl]; exact h2)]
theorem first_gr (t : Txt) (r : List UInt8) (h : allB 65 90 (bl8 t) = true) (h1 : 1 ≤ (bl8 t).length) (h8 : (bl8 t).length ≤ 8) (hr : endW r) : firstW (bl8 t ++ r) = .word 4 (bl8 t) 0 (bl8 t).length := by
  cases e : bl8 t with
  | nil => rw [e] at h1; simp at h1
  | cons c q =>
    rw [e] at h h8
    have hc : inB 65 90 c.toNat = true := by simp only [allB, List.all_cons, Bool.and_eq_true] at h; exact h.1
    have hn : inB 97 122 c.toNat = false := by simp [inB] at hc ⊢; omega
    have hld := lead_stop h (fun c hc => (hr c hc).2.1)
    rw [List.cons_append] at hld
    rw [List.cons_append, firstW]
    rw [if_neg (by rw [hn]; decide), if_pos hc, greatW, hld, if_pos h8]
theorem dec_digits (n : Nat) (r : List UInt8) (hr : endW r) : leadL 48 57 (natL n ++ r) = natL n := lead_stop (natL_digits n) (fun c hc => (hr c hc).2.2)
theorem first_nu (n : Int) (r : List UInt8) (h0 : -9223372036854775808 ≤ n) (h1 : n ≤ 9223372036854775807) (hr : endW r) : firstW (decL n ++ r) = .word 2 [] n (decL n).length := by
  unfold decL
  by_cases hn : n < 0
  · rw [if_pos hn]
    have q1 : inB 97 122 (45 : UInt8).toNat = false := rfl
    have q2 : inB 65 90 (45 : UInt8).toNat = false := rfl
    have q3 : isNumL (45 :: natL n.natAbs ++ r) = true := by
      cases e : natL n.natAbs with
      | nil => exact absurd e (natL_ne _)
      | cons c q =>
        have hc := digit_head (natL_digits _) e
        simp [isNumL, inB]; omega
    have hm : minusL (45 :: natL n.natAbs ++ r) = 1 := rfl
    have hn2 : numLen (45 :: natL n.natAbs ++ r) = (natL n.natAbs).length.succ := by rw [numLen, hm, List.cons_append, List.drop_succ_cons, List.drop_zero, dec_digits _ _ hr]; omega
    rw [firstW_num _ 45 rfl q1 q2 q3, numW, hn2]
    have ht : (45 :: natL n.natAbs ++ r).take (natL n.natAbs).length.succ = 45 :: natL n.natAbs := by rw [List.cons_append, List.take_succ_cons, List.take_append_of_le_length (Nat.le_refl _), List.take_length]
    rw [ht, parseI_neg _ (by omega)]
    simp only [List.length_cons]
    rw [show (-(n.natAbs : Int)) = n by omega]
  · rw [if_neg hn]
    cases e : natL n.natAbs with
    | nil => exact absurd e (natL_ne _)
    | cons c q =>
      have hc := digit_head (natL_digits _) e
      have h45 : ¬ (c = 45) := by rintro rfl; revert hc; decide
      have q1 : inB 97 122 c.toNat = false := by simp [inB]; omega
      have q2 : inB 65 90 c.toNat = false := by simp [inB]; omega
      have q3 : isNumL (c :: q ++ r) = true := by simp [isNumL, h45, inB]; omega
      have hm : minusL (c :: q ++ r) = 0 := by simp [minusL, h45]
      have hn2 : numLen (c :: q ++ r) = (c :: q).length := by rw [numLen, hm, List.drop_zero, ← e, dec_digits _ _ hr]; omega
      rw [firstW_num _ c rfl q1 q2 q3, numW, hn2]
      rw [List.take_append_of_le_length (Nat.le_refl _), List.take_length, ← e, parseI_pos _ (by omega)]
      simp only
      rw [show (n.natAbs : Int) = n by omega]

theorem esc_cons (c : UInt8) (l : List UInt8) : flatB (escP (c :: l)) = flatB (escC c) ++ flatB (escP l) := by
  have e : escP (c :: l) = escC c ++ escP l := by simp [escP]
  rw [e, flatB_append]
theorem endL_escR (l r : List UInt8) (h : allB 32 126 l = true) : endL (flatB (escP l) ++ 34 :: r) = some ((flatB (escP l)).length + 1) := by
  induction l with
  | nil => simp [escP, flatB, endL.eq_def]
  | cons c l ih =>
    simp only [allB, List.all_cons, Bool.and_eq_true] at h
    rw [esc_cons]
    by_cases hc : c.toNat = 34 ∨ c.toNat = 92
    · have e1 : flatB (escC c) = [92, c] := by rw [escC, if_pos hc]; rfl
      rw [e1]
      show endL (92 :: c :: (flatB (escP l) ++ 34 :: r)) = _
      rw [endL, if_neg (by decide), if_pos (by decide), if_pos hc, ih h.2]
      simp
    · have e1 : flatB (escC c) = [c] := by rw [escC, if_neg hc]; rfl
      rw [e1]
      show endL (c :: (flatB (escP l) ++ 34 :: r)) = _
      rw [endL.eq_def]
      simp only
      rw [if_neg (fun q => hc (.inl q)), if_neg (fun q => hc (.inr q)), if_pos h.1, ih h.2]
      simp
theorem bareL_escR (l : List UInt8) : bareL (flatB (escP l)) = l := by
  induction l with
  | nil => rfl
  | cons c l ih =>
    rw [esc_cons]
    by_cases hc : c.toNat = 34 ∨ c.toNat = 92
    · have e1 : flatB (escC c) = [92, c] := by rw [escC, if_pos hc]; rfl
      rw [e1]
      show bareL (92 :: c :: flatB (escP l)) = _
      rw [bareL, if_pos (by decide), ih]
    · have e1 : flatB (escC c) = [c] := by rw [escC, if_neg hc]; rfl
      rw [e1]
      show bareL (c :: flatB (escP l)) = _
      rw [bareL.eq_def]
      simp only
      rw [if_neg (fun q => hc (.inr q)), ih]
theorem first_st (t : Txt) (r : List UInt8) (h : isTextB t.1 = true) : firstW (34 :: (flatB (escP (bl8 t)) ++ [34]) ++ r) = .word 3 (bl8 t) 0 (34 :: (flatB (escP (bl8 t)) ++ [34])).length := by
  simp only [isTextB, Bool.and_eq_true, decide_eq_true_eq] at h
  have hl : (bl8 t).length = t.1.size := Array.length_toList ..
  have e : (34 :: (flatB (escP (bl8 t)) ++ [34]) ++ r) = 34 :: (flatB (escP (bl8 t)) ++ 34 :: r) := by simp
  rw [e, firstW_text _ 34 rfl rfl rfl rfl rfl, textW]
  simp only [List.drop_succ_cons, List.drop_zero]
  rw [endL_escR (bl8 t) r h.2]
  simp only [Nat.add_sub_cancel]
  rw [List.take_append_of_le_length (Nat.le_refl _), List.take_length, bareL_escR, if_pos (by rw [hl]; exact h.1)]
  simp

theorem first_sg (t : Txt) (r : List UInt8) (h : bl8 t ∈ softS ∨ bl8 t ∈ hardS) (hr : bl8 t ∈ softS ∨ endH r) : firstW (bl8 t ++ r) = .word 5 (bl8 t) 0 (bl8 t).length := by
  generalize bl8 t = l at h hr
  have soft : l ∈ softS → firstW (l ++ r) = .word 5 l 0 l.length := by
    intro hs
    simp only [softS, List.mem_cons, List.not_mem_nil, or_false] at hs
    rcases hs with rfl | rfl | rfl | rfl | rfl | rfl | rfl | rfl | rfl | rfl | rfl <;>
      (rw [firstW_sign _ _ rfl (by decide) (by decide) (by simp [isNumL, inB]) (by decide)]; simp [signW, signsL, List.isPrefixOf])
  rcases h with h | h
  · exact soft h
  rcases hr with hr | ⟨c, hc, hr⟩
  · exact soft hr
  obtain ⟨q, rfl⟩ : ∃ q, r = c :: q := by
    cases r with
    | nil => simp at hc
    | cons d q => simp at hc; subst hc; exact ⟨q, rfl⟩
  have h61 : ¬ (61 = c) := by
    rintro rfl
    rcases hr with hr | hr
    · revert hr; decide
    · revert hr; decide
  have hd : inB 48 57 c.toNat = false := by
    rcases hr with rfl | hr
    · decide
    · simp [inB] at hr ⊢; omega
  simp only [hardS, List.mem_cons, List.not_mem_nil, or_false] at h
  rcases h with rfl | rfl | rfl | rfl | rfl <;>
    (rw [firstW_sign _ _ rfl (by decide) (by decide) (by first | (simp [isNumL, inB]; done) | (simp [isNumL]; exact hd)) (by decide)]; simp [signW, signsL, List.isPrefixOf, h61])

theorem first_tk (t : Tk) (r : List UInt8) (h : t.ok) (hr : t.stop r) : firstW (t.by ++ r) = .word t.k (bl8 t.t) t.n t.by.length := by
  cases t with
  | nm t => exact first_nm t r h hr
  | gr t => exact first_gr t r h.1 h.2.1 h.2.2 hr
  | nu n => exact first_nu n r h.1 h.2 hr
  | st t => exact first_st t r h
  | sg t => exact first_sg t r h hr
theorem tk_head (t : Tk) (h : t.ok) : ∃ c r, t.by = c :: r ∧ c.toNat ≠ 32 := by
  have names : ∀ (lo hi : Int) (l : List UInt8), 33 ≤ lo → 1 ≤ l.length → allB lo hi l = true → ∃ c r, l = c :: r ∧ c.toNat ≠ 32 := by
    intro lo hi l hlo h1 ha
    cases l with
    | nil => simp at h1
    | cons c r =>
      simp only [allB, List.all_cons, Bool.and_eq_true] at ha
      refine ⟨c, r, rfl, ?_⟩
      have := ha.1
      simp [inB] at this
      omega
  cases t with
  | nm t =>
    simp only [Tk.ok, nameB, Bool.and_eq_true, decide_eq_true_eq] at h
    exact names 97 122 _ (by decide) (by have : (bl8 t).length = t.1.size := Array.length_toList ..; have := h.1.1; show 1 ≤ (bl8 t).length; omega) h.2
  | gr t => exact names 65 90 _ (by decide) h.2.1 h.1
  | nu n =>
    simp only [Tk.by, decL]
    split
    · exact ⟨45, _, rfl, by decide⟩
    · exact names 48 57 _ (by decide) (by cases e : natL n.natAbs with | nil => exact absurd e (natL_ne _) | cons c r => simp) (natL_digits _)
  | st t => exact ⟨34, _, rfl, by decide⟩
  | sg t =>
    simp only [Tk.ok, softS, hardS, List.mem_cons, List.not_mem_nil, or_false] at h
    simp only [Tk.by]
    rcases h with (h | h | h | h | h | h | h | h | h | h | h) | (h | h | h | h | h) <;> rw [h] <;> exact ⟨_, _, rfl, by decide⟩

/-- What is written: words and blanks. -/
inductive It where
  | tk (t : Tk)
  | bl
def It.by : It → List UInt8
  | .tk t => t.by
  | .bl => [32]
def flatI (l : List It) : List UInt8 := l.flatMap It.by
theorem flatI_nil : flatI [] = [] := rfl
theorem flatI_tk (t : Tk) (l : List It) : flatI (.tk t :: l) = t.by ++ flatI l := by simp [flatI, It.by]
theorem flatI_bl (l : List It) : flatI (.bl :: l) = 32 :: flatI l := by simp [flatI, It.by]
theorem flatI_append (a b : List It) : flatI (a ++ b) = flatI a ++ flatI b := by simp [flatI]
/-- Each word may be, and is ended by what follows. -/
def goodI : List It → List UInt8 → Prop
  | [], _ => True
  | .tk t :: r, z => t.ok ∧ t.stop (flatI r ++ z) ∧ goodI r z
  | .bl :: r, z => goodI r z
theorem goodI_append : ∀ (a b : List It) (z : List UInt8), goodI (a ++ b) z ↔ goodI a (flatI b ++ z) ∧ goodI b z
  | [], b, z => by simp [goodI]
  | .tk t :: a, b, z => by
    simp only [List.cons_append, goodI, goodI_append a b z, flatI_append, List.append_assoc, and_assoc]
  | .bl :: a, b, z => by simp only [List.cons_append, goodI, goodI_append a b z]
/-- The words, each with its place. -/
def wordsI : Nat → List It → List Wd
  | _, [] => []
  | a, .tk t :: r => .word t.k (bl8 t.t) t.n a :: wordsI (a + t.by.length) r
  | a, .bl :: r => wordsI (a + 1) r
theorem restI : ∀ (l : List It) (a : Nat), goodI l [] → restL a (flatI l) = wordsI a l
  | [], a, _ => restL_nil a
  | .bl :: r, a, h => by
    rw [flatI_bl, restL_blank _ _ (by decide), restI r (a + 1) h]; rfl
  | .tk t :: r, a, h => by
    obtain ⟨h1, h2, h3⟩ := h
    rw [List.append_nil] at h2
    obtain ⟨c, q, e, hc⟩ := tk_head t h1
    have hf := first_tk t (flatI r) h1 h2
    rw [flatI_tk]
    have hd : (t.by ++ flatI r).drop t.by.length = flatI r := List.drop_left
    rw [e, List.cons_append] at hf hd ⊢
    rw [restL_word a hc hf, hd, restI r _ h3, wordsI, e]
theorem wordsI_word : ∀ (l : List It) (a : Nat), ∀ x ∈ wordsI a l, isWord x = true
  | [], _, x, h => by simp [wordsI] at h
  | .tk t :: r, a, x, h => by
    simp only [wordsI, List.mem_cons] at h
    rcases h with rfl | h
    · rfl
    · exact wordsI_word r _ x h
  | .bl :: r, a, x, h => wordsI_word r _ x h
/-- How many words. -/
def cntI (l : List It) : Nat := (l.filter fun x => match x with | .tk _ => true | .bl => false).length
theorem cntI_append (a b : List It) : cntI (a ++ b) = cntI a + cntI b := by simp [cntI]
theorem cntI_tk (t : Tk) (l : List It) : cntI (.tk t :: l) = cntI l + 1 := by simp [cntI]
theorem cntI_bl (l : List It) : cntI (.bl :: l) = cntI l := by simp [cntI]
theorem wordsI_len : ∀ (l : List It) (a : Nat), (wordsI a l).length = cntI l
  | [], _ => rfl
  | .tk t :: r, a => by simp only [wordsI, List.length_cons, cntI_tk, wordsI_len r]
  | .bl :: r, a => by simp only [wordsI, cntI_bl, wordsI_len r]
theorem cut_items (l : List It) (h : goodI l []) (h5 : cntI l ≤ 500) : cutL (flatI l) = wordsI 0 l ∧ errL 0 (cutL (flatI l)) = 0 ∧ wordsL (flatI l) = wordsI 0 l := by
  have e : cutL (flatI l) = wordsI 0 l := restI l 0 h
  have e2 : errL 0 (wordsI 0 l) = 0 := errL_all _ (wordsI_word l 0) (by rw [wordsI_len]; exact h5)
  refine ⟨e, by rw [e, e2], ?_⟩
  unfold wordsL
  rw [e, if_pos e2]
end Go.Proofs.YtmhpakhnclkenaaGreatDoor

namespace Go.Proofs.YtmhpakhnclkenaaGreatDoor
open Go.RowKit Go.Shelf

def Tk.pw (t : Tk) (a : Nat) : Pw := ⟨t.k, t.t, t.n, a⟩
def toksI : Nat → List It → List Pw
  | _, [] => []
  | a, .tk t :: r => t.pw a :: toksI (a + t.by.length) r
  | a, .bl :: r => toksI (a + 1) r
theorem txt_eq (t : Txt) (h : (bl8 t).length ≤ maxLen) : (⟨⟨(bl8 t).toArray⟩, by show (bl8 t).toArray.size ≤ maxLen; simpa using h⟩ : Txt) = t := by
  apply Subtype.ext
  show (⟨t.1.data.toList.toArray⟩ : ByteArray) = t.1
  simp
theorem pwOf_tk (t : Tk) (a : Nat) : pwOf (.word t.k (bl8 t.t) t.n a) = t.pw a := by
  have hl : (bl8 t.t).length ≤ maxLen := by
    have : (bl8 t.t).length = t.t.1.size := Array.length_toList ..
    rw [this]; exact t.t.2
  unfold pwOf Tk.pw
  simp only
  rw [dif_pos hl, txt_eq t.t hl]
theorem words_toks : ∀ (l : List It) (a : Nat), (wordsI a l).map pwOf = toksI a l
  | [], _ => rfl
  | .tk t :: r, a => by simp only [wordsI, List.map_cons, pwOf_tk, words_toks r, toksI]
  | .bl :: r, a => by simp only [wordsI, toksI, words_toks r]
theorem toksI_append : ∀ (l m : List It) (a : Nat), toksI a (l ++ m) = toksI a l ++ toksI (a + (flatI l).length) m
  | [], m, a => by simp [toksI, flatI]
  | .tk t :: r, m, a => by
    simp only [List.cons_append, toksI, toksI_append r m, flatI_tk, List.length_append, Nat.add_assoc]
  | .bl :: r, m, a => by
    simp only [List.cons_append, toksI, toksI_append r m, flatI_bl, List.length_cons]
    congr 2; omega

theorem trim_blank (l : List UInt8) (k : Nat) (h : ∀ b ∈ l, b ≠ 32) : Lib.trimRightB (l ++ List.replicate k 32) 32 = l := by
  have := Lib.trimRightB_take (l ++ List.replicate k 32) 32 l.length (by simp) (fun j b hj hb => by
    rw [List.getElem?_append_right hj, List.getElem?_replicate] at hb
    split at hb
    · exact (Option.some.inj hb).symm
    · cases hb) (fun b h0 hb => by
    rw [List.getElem?_append_left (by omega)] at hb
    exact h b (List.mem_of_getElem? hb))
  rw [this, List.take_append_of_le_length (Nat.le_refl _), List.take_length]
theorem dec_seen (n : Int) : ∀ b ∈ decL n, b ≠ 32 := by
  have hd : ∀ m : Nat, ∀ b ∈ natL m, b ≠ 32 := by
    intro m b hb e
    have := natL_digits m
    simp only [allB, List.all_eq_true] at this
    have := this b hb
    rw [e] at this
    revert this; decide
  intro b hb
  unfold decL at hb
  split at hb
  · rcases List.mem_cons.1 hb with rfl | hb
    · decide
    · exact hd _ b hb
  · exact hd _ b hb
theorem next_place : ∀ (r : List It) (a : Nat), ∃ k rest, flatI r = List.replicate k 32 ++ rest ∧ (match (toksI a r)[0]? with | some w => w.p.toNat | none => a + (flatI r).length) = a + k
  | [], a => ⟨0, [], rfl, rfl⟩
  | .tk t :: r, a => ⟨0, _, rfl, by simp [toksI, Tk.pw]⟩
  | .bl :: r, a => by
    obtain ⟨k, rest, h1, h2⟩ := next_place r (a + 1)
    refine ⟨k + 1, rest, by rw [flatI_bl, h1]; rfl, ?_⟩
    rw [show toksI a (.bl :: r) = toksI (a + 1) r from rfl]
    rw [show a + (flatI (.bl :: r)).length = a + 1 + (flatI r).length by rw [flatI_bl, List.length_cons]; omega, h2]
    omega
theorem trims (s : ByteArray) : ∀ (its : List It) (pre : List UInt8), s.data.toList = pre ++ flatI its → ∀ (i : Nat) w, (toksI pre.length its)[i]? = some w → w.k = 2 →
    (trm s w.p.toNat (match (toksI pre.length its)[i + 1]? with | some v => v.p.toNat | none => s.size)).data.toList = decL w.n
  | [], _, _, i, w, h, _ => by simp [toksI] at h
  | .bl :: r, pre, hs, i, w, h, hk => by
    have := trims s r (pre ++ [32]) (by rw [hs, flatI_bl]; simp) i w
    have e : (pre ++ [(32 : UInt8)]).length = pre.length + 1 := by simp
    rw [e] at this
    exact this h hk
  | .tk t :: r, pre, hs, i, w, h, hk => by
    have hsz : s.size = pre.length + t.by.length + (flatI r).length := by
      have := congrArg List.length hs
      rw [flatI_tk, List.length_append, List.length_append] at this
      rw [show s.data.toList.length = s.size from Array.length_toList ..] at this
      omega
    cases i with
    | succ i =>
      have := trims s r (pre ++ t.by) (by rw [hs, flatI_tk, List.append_assoc]) i w
      have e : (pre ++ t.by).length = pre.length + t.by.length := by simp
      rw [e] at this
      exact this (by simpa [toksI] using h) hk
    | zero =>
      have hw : w = t.pw pre.length := by simpa [toksI] using h.symm
      subst hw
      obtain ⟨n, rfl⟩ : ∃ n, t = .nu n := by
        cases t <;> first | exact ⟨_, rfl⟩ | (simp [Tk.pw, Tk.k] at hk)
      obtain ⟨k, rest, h1, h2⟩ := next_place r (pre.length + (Tk.nu n).by.length)
      have he : (match (toksI pre.length (.tk (.nu n) :: r))[0 + 1]? with | some v => v.p.toNat | none => s.size) = pre.length + (Tk.nu n).by.length + k := by
        rw [← h2, hsz]; rfl
      rw [he]
      show Lib.trimRightB (s.extract ((pre.length : Int).toNat) _).data.toList 32 = decL n
      rw [ext_list, hs, flatI_tk, h1, Int.toNat_natCast]
      have e : (pre ++ ((Tk.nu n).by ++ (List.replicate k 32 ++ rest))).take (pre.length + (Tk.nu n).by.length + k) = pre ++ ((Tk.nu n).by ++ List.replicate k 32) := by
        rw [show pre ++ ((Tk.nu n).by ++ (List.replicate k 32 ++ rest)) = (pre ++ ((Tk.nu n).by ++ List.replicate k 32)) ++ rest by simp]
        exact List.take_left' (by simp; omega)
      rw [e, List.drop_left]
      exact trim_blank _ _ (dec_seen n)

theorem val_dec (n : Int) : (valB 1 n ⟨#[]⟩).data.toList = decL n := by
  have hB : isB 1 n ⟨#[]⟩ = true := by unfold isB; rw [if_pos rfl, nil_toList]; rfl
  rw [valB_yes hB]
  show (txtB (litP 1 n ⟨#[]⟩)).data.toList = _
  rw [show litP 1 n ⟨#[]⟩ = [itoaB n] from rfl, txtB_one, ← decB_itoa]
  rfl
theorem fix_same (x : Pw × ByteArray) (h : x.1.k = 2 → x.2.data.toList = decL x.1.n) : fixW x = x.1 := by
  unfold fixW
  by_cases hk : x.1.k = 2
  · have e : x.2.toList = (valB 1 x.1.n ⟨#[]⟩).toList := by
      rw [show x.2 = valB 1 x.1.n ⟨#[]⟩ from eq_of_list ((h hk).trans (val_dec _).symm)]
    rw [if_neg (by rw [e]; simp)]
  · rw [if_neg (by simp [hk])]
/-- What is read of a text that is written of words. -/
theorem read_items (l : List It) (h : goodI l []) (h5 : cntI l ≤ 500) : readP ⟨(flatI l).toArray⟩ = ⟨toksI 0 l, 0, 0⟩ := by
  have hl : (⟨(flatI l).toArray⟩ : ByteArray).data.toList = flatI l := by simp
  obtain ⟨h1, h2, h3⟩ := cut_items l h h5
  have hw : wordsP ⟨(flatI l).toArray⟩ = toksI 0 l := by unfold wordsP; rw [hl, h3, words_toks]
  unfold readP
  rw [hl, h2]
  congr 1
  unfold pairsP
  rw [hw]
  apply List.ext_getElem?
  intro i
  rw [List.getElem?_map, List.getElem?_mapIdx]
  cases hi : (toksI 0 l)[i]? with
  | none => rfl
  | some w =>
    simp only [Option.map_some]
    rw [fix_same]
    intro hk
    have := trims ⟨(flatI l).toArray⟩ l [] (by simp) i w hi hk
    simp only [endP', hw]
    exact this
end Go.Proofs.YtmhpakhnclkenaaGreatDoor

namespace Go.Proofs.YtmhpakhnclkenaaGreatDoor
open Go.RowKit Go.Shelf

abbrev opTk : Int → Tk
  | 3 => .sg (tx [43]) | 4 => .sg (tx [45]) | 5 => .sg (tx [42]) | 6 => .sg (tx [61]) | 7 => .sg (tx [33, 61]) | 8 => .sg (tx [60]) | 9 => .sg (tx [60, 61])
  | 10 => .gr (tx [65, 78, 68]) | 11 => .gr (tx [79, 82]) | _ => .sg (tx [43])
def litTk (d : Dat) : Tk := if d.k = 2 then .st d.s else if d.k = 3 then .gr (if d.n = 1 then tx [84, 82, 85, 69] else tx [70, 65, 76, 83, 69]) else .nu d.n
abbrev opn : It := .tk (.sg (tx [40]))
abbrev cls : It := .tk (.sg (tx [41]))
abbrev dotI : It := .tk (.sg (tx [46]))
abbrev notI : It := .tk (.gr (tx [78, 79, 84]))
def condNI (d : Dat) (l : List (List It)) : List It :=
  if d.op = 1 then [.tk (litTk d)]
  else if d.op = 2 then [.tk (.nm d.al), dotI, .tk (.nm d.fd)]
  else if d.op = 12 then opn :: notI :: .bl :: (l.getD 0 [] ++ [cls])
  else opn :: (l.getD 0 [] ++ .bl :: .tk (opTk d.op) :: .bl :: (l.getD 1 [] ++ [cls]))
mutual
def condI : Tree → List It
  | .mk d ks => condNI d (condIL ks)
def condIL : List Tree → List (List It)
  | [] => []
  | t :: ts => condI t :: condIL ts
end

/-- What the data of a condition that may be are: by sign. -/
inductive Shp : Tree → Prop
  | int (n : Int) (h0 : -9223372036854775808 ≤ n) (h1 : n ≤ 9223372036854775807) : Shp (.mk ⟨1, 1, n, t0, t0, t0⟩ [])
  | str (s : Txt) (h : isTextB s.1 = true) : Shp (.mk ⟨1, 2, 0, s, t0, t0⟩ [])
  | bool (n : Int) (h : n = 0 ∨ n = 1) : Shp (.mk ⟨1, 3, n, t0, t0, t0⟩ [])
  | fld (a f : Txt) (ha : nameB a.1 = true) (hf : nameB f.1 = true) : Shp (.mk ⟨2, 0, 0, t0, a, f⟩ [])
  | not (x : Tree) (hx : Shp x) : Shp (.mk (dOp 12) [x])
  | two (o : Int) (h3 : 3 ≤ o) (h11 : o ≤ 11) (x y : Tree) (hx : Shp x) (hy : Shp y) : Shp (.mk (dOp o) [x, y])
theorem txt_nil {t : Txt} (h : t.1.toList.isEmpty = true) : t = t0 := by
  apply Subtype.ext
  apply eq_of_list
  have h2 := List.isEmpty_iff.1 h
  rw [ByteArray.toList_eq] at h2
  exact h2
theorem snd_shp {t : Tree} (h : Snd t) : Shp t := by
  induction h with
  | mk d ks hs h0 h1 hk ih =>
    obtain ⟨op, k, n, s, al, fd⟩ := d
    simp only [soundB, Bool.and_eq_true, decide_eq_true_eq] at hs
    obtain ⟨⟨⟨g1, g12⟩, gm⟩, hs⟩ := hs
    by_cases o1 : op = 1
    · subst o1
      simp only [if_true] at hs
      have hk0 : ks = [] := List.eq_nil_of_length_eq_zero (by rw [gm]; rfl)
      subst hk0
      simp only [Bool.and_eq_true, bareB] at hs
      obtain ⟨⟨ha, hf⟩, hb⟩ := hs
      obtain rfl := txt_nil ha
      obtain rfl := txt_nil hf
      unfold isB at hb
      split at hb
      · rename_i e; subst e
        obtain rfl := txt_nil hb
        exact .int n h0 h1
      split at hb
      · rename_i e; subst e
        simp only [Bool.and_eq_true, decide_eq_true_eq] at hb
        obtain ⟨rfl, hb⟩ := hb
        exact .str s hb
      split at hb
      · rename_i e; subst e
        simp only [Bool.and_eq_true, inB, decide_eq_true_eq] at hb
        obtain rfl := txt_nil hb.2
        exact .bool n (by omega)
      · cases hb
    by_cases o2 : op = 2
    · subst o2
      rw [if_neg (by decide), if_pos rfl] at hs
      have hk0 : ks = [] := List.eq_nil_of_length_eq_zero (by rw [gm]; rfl)
      subst hk0
      simp only [Bool.and_eq_true, zeroB, decide_eq_true_eq] at hs
      obtain ⟨⟨⟨rfl, rfl, h3⟩, ha⟩, hf⟩ := hs
      obtain rfl := txt_nil (List.isEmpty_iff.2 h3)
      exact .fld al fd ha hf
    rw [if_neg o1, if_neg o2] at hs
    simp only [Bool.and_eq_true, bareB, zeroB, decide_eq_true_eq] at hs
    obtain ⟨⟨ha, hf⟩, rfl, rfl, h3⟩ := hs
    obtain rfl := txt_nil ha
    obtain rfl := txt_nil hf
    obtain rfl := txt_nil (List.isEmpty_iff.2 h3)
    by_cases o12 : op = 12
    · subst o12
      have hl : ks.length = 1 := by rw [gm]; rfl
      match ks, hl with
      | [x], _ => exact .not x (ih 0 x rfl)
    · have hl : ks.length = 2 := by rw [gm, kidsN, if_neg o12, if_pos ⟨by omega, by omega⟩]
      match ks, hl with
      | [x, y], _ => exact .two op (by omega) (by omega) x y (ih 0 x rfl) (ih 1 y rfl)
end Go.Proofs.YtmhpakhnclkenaaGreatDoor

namespace Go.Proofs.YtmhpakhnclkenaaGreatDoor
open Go.RowKit Go.Shelf

theorem bl8_tx (l : List UInt8) (h : l.length ≤ maxLen) : bl8 (tx l h) = l := by simp [bl8]
theorem op_cases {o : Int} (h3 : 3 ≤ o) (h11 : o ≤ 11) : o = 3 ∨ o = 4 ∨ o = 5 ∨ o = 6 ∨ o = 7 ∨ o = 8 ∨ o = 9 ∨ o = 10 ∨ o = 11 := by omega
theorem op_by {o : Int} (h3 : 3 ≤ o) (h11 : o ≤ 11) : (opTk o).by = (sgB o.toNat).data.toList := by
  rcases op_cases h3 h11 with rfl | rfl | rfl | rfl | rfl | rfl | rfl | rfl | rfl <;> rfl
theorem soft_ok {l : List UInt8} {h : l.length ≤ maxLen} (hs : l ∈ softS) : (Tk.sg (tx l h)).ok := .inl (by rw [bl8_tx]; exact hs)
theorem soft_stop {l : List UInt8} {h : l.length ≤ maxLen} (hs : l ∈ softS) (z : List UInt8) : (Tk.sg (tx l h)).stop z := .inl (by rw [bl8_tx]; exact hs)
theorem gr_ok {l : List UInt8} {h : l.length ≤ maxLen} (h1 : allB 65 90 l = true) (h2 : 1 ≤ l.length) (h3 : l.length ≤ 8) : (Tk.gr (tx l h)).ok := by
  refine ⟨?_, ?_, ?_⟩ <;> rw [bl8_tx] <;> assumption
theorem hard_ok {l : List UInt8} {h : l.length ≤ maxLen} (hs : l ∈ hardS) : (Tk.sg (tx l h)).ok := .inr (by rw [bl8_tx]; exact hs)
theorem op_ok {o : Int} (h3 : 3 ≤ o) (h11 : o ≤ 11) : (opTk o).ok := by
  rcases op_cases h3 h11 with rfl | rfl | rfl | rfl | rfl | rfl | rfl | rfl | rfl
  · exact soft_ok (l := [43]) (h := by decide) (by decide)
  · exact hard_ok (l := [45]) (h := by decide) (by decide)
  · exact soft_ok (l := [42]) (h := by decide) (by decide)
  · exact soft_ok (l := [61]) (h := by decide) (by decide)
  · exact hard_ok (l := [33, 61]) (h := by decide) (by decide)
  · exact hard_ok (l := [60]) (h := by decide) (by decide)
  · exact hard_ok (l := [60, 61]) (h := by decide) (by decide)
  · exact gr_ok (l := [65, 78, 68]) (h := by decide) (by decide) (by decide) (by decide)
  · exact gr_ok (l := [79, 82]) (h := by decide) (by decide) (by decide) (by decide)
theorem op_stop {o : Int} (h3 : 3 ≤ o) (h11 : o ≤ 11) (z : List UInt8) : (opTk o).stop (32 :: z) := by
  have e : endW (32 :: z) := fun c hc => by simp at hc; subst hc; exact ⟨rfl, rfl, rfl⟩
  have e2 : endH (32 :: z) := ⟨32, rfl, .inl rfl⟩
  rcases op_cases h3 h11 with rfl | rfl | rfl | rfl | rfl | rfl | rfl | rfl | rfl <;> first | exact .inr e2 | exact e
theorem lit_by (k n : Int) (s : Txt) (h : k = 1 ∨ k = 2 ∨ k = 3) : (litTk ⟨1, k, n, s, t0, t0⟩).by = flatB (litP k n s.1) := by
  rcases h with rfl | rfl | rfl
  · show decL n = flatB [(⟨(Lib.itoa n).toArray⟩ : ByteArray)]
    have := congrArg (fun b : ByteArray => b.data.toList) (decB_itoa n)
    simp only [decB, itoaB] at this
    simpa [flatB] using this
  · show 34 :: (flatB (escP (bl8 s)) ++ [34]) = flatB ([quB] ++ escP s.1.data.toList ++ [quB])
    rw [flatB_append, flatB_append]
    simp [flatB, bl8]
  · have h1 : litTk ⟨1, 3, n, s, t0, t0⟩ = .gr (if n = 1 then tx [84, 82, 85, 69] else tx [70, 65, 76, 83, 69]) := rfl
    have h2 : litP 3 n s.1 = [if n = 1 then ⟨#[84, 82, 85, 69]⟩ else ⟨#[70, 65, 76, 83, 69]⟩] := rfl
    rw [h1, h2]
    by_cases hn : n = 1
    · rw [if_pos hn, if_pos hn]; rfl
    · rw [if_neg hn, if_neg hn]; rfl
theorem condI_lit (d : Dat) (h : d.op = 1) : condI (.mk d []) = [.tk (litTk d)] := by simp only [condI, condIL, condNI, h, if_true]
theorem condI_fld (a f : Txt) : condI (.mk ⟨2, 0, 0, t0, a, f⟩ []) = [.tk (.nm a), dotI, .tk (.nm f)] := rfl
theorem condP_lit (k n : Int) (s : Txt) : condP (.mk ⟨1, k, n, s, t0, t0⟩ []) = litP k n s.1 := rfl
theorem condP_fld (a f : Txt) : condP (.mk ⟨2, 0, 0, t0, a, f⟩ []) = [a.1, dotB, f.1] := rfl
theorem condI_not (x : Tree) : condI (.mk (dOp 12) [x]) = opn :: notI :: .bl :: (condI x ++ [cls]) := rfl
theorem condP_not (x : Tree) : condP (.mk (dOp 12) [x]) = [[notB], condP x, [clB]].flatten := rfl
theorem condI_two {o : Int} (h3 : 3 ≤ o) (h11 : o ≤ 11) (x y : Tree) : condI (.mk (dOp o) [x, y]) = opn :: (condI x ++ .bl :: .tk (opTk o) :: .bl :: (condI y ++ [cls])) := by
  have e1 : ¬ o = 1 := by omega
  have e2 : ¬ o = 2 := by omega
  have e12 : ¬ o = 12 := by omega
  simp only [condI, condIL, condNI, e1, e2, e12, if_false]; rfl
theorem condP_two {o : Int} (h3 : 3 ≤ o) (h11 : o ≤ 11) (x y : Tree) : condP (.mk (dOp o) [x, y]) = [[opB], condP x, [blB, sgB o.toNat, blB], condP y, [clB]].flatten := by
  have e1 : ¬ o = 1 := by omega
  have e2 : ¬ o = 2 := by omega
  have e12 : ¬ o = 12 := by omega
  simp only [condP, condL, condN, e1, e2, e12, if_false]; rfl
theorem flatB_one (x : ByteArray) : flatB [x] = x.data.toList := by simp [flatB]
theorem flatB_cons (x : ByteArray) (l : List ByteArray) : flatB (x :: l) = x.data.toList ++ flatB l := by simp [flatB]
theorem flat_two (a b : List (List ByteArray)) : flatB (a ++ b).flatten = flatB a.flatten ++ flatB b.flatten := by rw [List.flatten_append, flatB_append]
theorem cond_flat {t : Tree} (h : Shp t) : flatI (condI t) = flatB (condP t) := by
  induction h with
  | int n h0 h1 => rw [condI_lit _ rfl, condP_lit, flatI_tk, flatI_nil, List.append_nil]; exact lit_by 1 n t0 (.inl rfl)
  | str s h => rw [condI_lit _ rfl, condP_lit, flatI_tk, flatI_nil, List.append_nil]; exact lit_by 2 0 s (.inr (.inl rfl))
  | bool n h => rw [condI_lit _ rfl, condP_lit, flatI_tk, flatI_nil, List.append_nil]; exact lit_by 3 n t0 (.inr (.inr rfl))
  | fld a f ha hf =>
    rw [condI_fld, condP_fld, flatI_tk, flatI_tk, flatI_tk, flatI_nil, flatB_cons, flatB_cons, flatB_one, List.append_nil]
    rfl
  | not x hx ih =>
    rw [condI_not, condP_not, flatI_tk, flatI_tk, flatI_bl, flatI_append, flatI_tk, flatI_nil, ih]
    simp only [List.flatten_cons, List.flatten_nil, List.append_nil, flatB_append, flatB_one]
    rfl
  | two o h3 h11 x y hx hy ihx ihy =>
    rw [condI_two h3 h11, condP_two h3 h11, flatI_tk, flatI_append, flatI_bl, flatI_tk, flatI_bl, flatI_append, flatI_tk, flatI_nil, ihx, ihy, op_by h3 h11]
    simp only [List.flatten_cons, List.flatten_nil, List.append_nil, flatB_append, flatB_cons]
    simp [bl8, Tk.by, flatB]

/-- What follows a condition. -/
def endC (z : List UInt8) : Prop := ∀ c, z.head? = some c → c = 32 ∨ c = 41 ∨ c = 93
theorem endC.w {z : List UInt8} (h : endC z) : endW z := fun c hc => by
  rcases h c hc with rfl | rfl | rfl <;> exact ⟨rfl, rfl, rfl⟩
theorem endC_one {c : UInt8} {z : List UInt8} (h : c = 32 ∨ c = 41 ∨ c = 93) : endC (c :: z) := fun d hd => by simp at hd; subst hd; exact h
theorem endW_one {c : UInt8} {z : List UInt8} (h : inB 97 122 c.toNat = false ∧ inB 65 90 c.toNat = false ∧ inB 48 57 c.toNat = false) : endW (c :: z) := fun d hd => by simp at hd; subst hd; exact h
theorem cond_good {t : Tree} (h : Shp t) : ∀ z, endC z → goodI (condI t) z := by
  induction h with
  | int n h0 h1 => intro z hz; exact ⟨⟨h0, h1⟩, hz.w, trivial⟩
  | str s h => intro z hz; exact ⟨h, trivial, trivial⟩
  | bool n h =>
    intro z hz
    rcases h with rfl | rfl
    · exact ⟨gr_ok (l := [70, 65, 76, 83, 69]) (h := by decide) (by decide) (by decide) (by decide), hz.w, trivial⟩
    · exact ⟨gr_ok (l := [84, 82, 85, 69]) (h := by decide) (by decide) (by decide) (by decide), hz.w, trivial⟩
  | fld a f ha hf =>
    intro z hz
    exact ⟨ha, endW_one (by decide), soft_ok (by decide), soft_stop (by decide) _, hf, hz.w, trivial⟩
  | not x hx ih =>
    intro z hz
    rw [condI_not]
    refine ⟨soft_ok (by decide), soft_stop (by decide) _, gr_ok (by decide) (by decide) (by decide), ?_, ?_⟩
    · rw [flatI_bl]; exact endW_one (by decide)
    · show goodI (condI x ++ [cls]) z
      rw [goodI_append]
      refine ⟨ih _ ?_, soft_ok (by decide), soft_stop (by decide) _, trivial⟩
      rw [flatI_tk]
      exact endC_one (c := 41) (.inr (.inl rfl))
  | two o h3 h11 x y hx hy ihx ihy =>
    intro z hz
    rw [condI_two h3 h11]
    refine ⟨soft_ok (by decide), soft_stop (by decide) _, ?_⟩
    rw [goodI_append]
    refine ⟨ihx _ ?_, ?_⟩
    · rw [flatI_bl]; exact endC_one (c := 32) (.inl rfl)
    · refine ⟨op_ok h3 h11, ?_, ?_⟩
      · rw [flatI_bl]; exact op_stop h3 h11 _
      · show goodI (condI y ++ [cls]) z
        rw [goodI_append]
        refine ⟨ihy _ ?_, soft_ok (by decide), soft_stop (by decide) _, trivial⟩
        rw [flatI_tk]
        exact endC_one (c := 41) (.inr (.inl rfl))
/-- Words are at most three a node. -/
theorem cond_cnt {t : Tree} (h : Shp t) : ∀ m : Nat, shapedT m t = true → cntI (condI t) ≤ 3 * cntT (21 - m) t := by
  have one : ∀ (m : Nat) (d : Dat), d.op ≠ 0 → m ≤ 5 → cntT (21 - m) (.mk d []) = 1 := by
    intro m d hd hm
    rw [cntT, if_neg (by omega), cntL]
  induction h with
  | int n h0 h1 => intro m hm; rw [shapedT, Bool.and_eq_true, Bool.and_eq_true, decide_eq_true_eq] at hm; rw [one m _ (by simp) hm.1.1]; simp [condI, condNI, cntI]
  | str s h => intro m hm; rw [shapedT, Bool.and_eq_true, Bool.and_eq_true, decide_eq_true_eq] at hm; rw [one m _ (by simp) hm.1.1]; simp [condI, condNI, cntI]
  | bool n h => intro m hm; rw [shapedT, Bool.and_eq_true, Bool.and_eq_true, decide_eq_true_eq] at hm; rw [one m _ (by simp) hm.1.1]; simp [condI, condNI, cntI]
  | fld a f ha hf => intro m hm; rw [shapedT, Bool.and_eq_true, Bool.and_eq_true, decide_eq_true_eq] at hm; rw [one m _ (by simp) hm.1.1]; simp [condI, condNI, cntI]
  | not x hx ih =>
    intro m hm
    rw [shapedT, Bool.and_eq_true, Bool.and_eq_true, decide_eq_true_eq, shapedL, Bool.and_eq_true] at hm
    have := ih (m + 1) hm.2.1
    rw [condI_not, cntT, if_neg (by simp; omega), cntL, cntL, show 21 - m - 1 = 21 - (m + 1) by omega]
    simp only [cntI_tk, cntI_bl, cntI_append]
    have : cntI [] = 0 := rfl
    omega
  | two o h3 h11 x y hx hy ihx ihy =>
    intro m hm
    rw [shapedT, Bool.and_eq_true, Bool.and_eq_true, decide_eq_true_eq, shapedL, Bool.and_eq_true, shapedL, Bool.and_eq_true] at hm
    have h1 := ihx (m + 1) hm.2.1
    have h2 := ihy (m + 1) hm.2.2.1
    rw [condI_two h3 h11, cntT, if_neg (by simp; omega), cntL, cntL, cntL, show 21 - m - 1 = 21 - (m + 1) by omega]
    simp only [cntI_tk, cntI_bl, cntI_append]
    have : cntI [] = 0 := rfl
    omega
end Go.Proofs.YtmhpakhnclkenaaGreatDoor

namespace Go.Proofs.YtmhpakhnclkenaaGreatDoor
open Go.RowKit Go.Shelf

/-- A word is this one. -/
def isTk (t : Tk) (b : ByteArray) : Bool := (decide (t.k = 5) || decide (t.k = 4)) && (bl8 t.t == b.data.toList)
theorem isW_tk (t : Tk) (a : Nat) (b : ByteArray) : isW (t.pw a) b = isTk t b := by
  unfold isW isTk Tk.pw bl8
  rw [ByteArray.toList_eq, ByteArray.toList_eq]
theorem headW (w : Pw) (r : List Pw) (n e : Int) : (Ps.mk (w :: r) n e).head = w := rfl
theorem tlW (w : Pw) (r : List Pw) (n e : Int) : (Ps.mk (w :: r) n e).tl = ⟨r, n, e⟩ := rfl
theorem must_tk (t : Tk) (a : Nat) (r : List Pw) (n e : Int) (b : ByteArray) (h : isTk t b = true) : mustP ⟨t.pw a :: r, n, e⟩ [b] = ⟨r, n, e⟩ := by
  show must1 _ b = _
  unfold must1
  rw [headW, isW_tk, if_pos h, tlW]
theorem take_tk (t : Tk) (a : Nat) (r : List Pw) (n e k : Int) (h : t.k = k) : takeP ⟨t.pw a :: r, n, e⟩ k = (t.pw a, ⟨r, n, e⟩) := by
  unfold takeP
  rw [headW, if_pos (show (t.pw a).k = k from h), tlW]
theorem name_no (t : Tk) (h : t.k ≠ 5 ∧ t.k ≠ 4) (b : ByteArray) : isTk t b = false := by simp [isTk, h.1, h.2]
theorem opF_tk (t : Tk) (a : Nat) (r : List Pw) (n : Int) : ∀ (l : List ByteArray) (i : Int) (j : Nat), (∀ m, m < j → ∀ b, l[m]? = some b → isTk t b = false) → (∃ b, l[j]? = some b ∧ isTk t b = true) → opF l i ⟨t.pw a :: r, n, 0⟩ = (i + j, ⟨r, n, 0⟩)
  | [], i, j, _, ⟨b, hb, _⟩ => by simp at hb
  | x :: l, i, 0, _, ⟨b, hb, ht⟩ => by
    simp at hb; subst hb
    unfold opF
    rw [headW, isW_tk, if_pos ht, tlW]; simp
  | x :: l, i, j + 1, h0, ⟨b, hb, ht⟩ => by
    have hx := h0 0 (by omega) x rfl
    unfold opF
    rw [headW, isW_tk, if_neg (by rw [hx]; decide)]
    rw [opF_tk t a r n l (i + 1) j (fun m hm b hb => h0 (m + 1) (by omega) b (by simpa using hb)) ⟨b, by simpa using hb, ht⟩]
    congr 1
    omega
theorem op_parse {o : Int} (h3 : 3 ≤ o) (h11 : o ≤ 11) (a : Nat) (r : List Pw) (n : Int) : opP ⟨(opTk o).pw a :: r, n, 0⟩ = (o, ⟨r, n, 0⟩) := by
  have key : ∀ j : Nat, j < 9 → (∀ m, m < j → ∀ b, psigns[m]? = some b → isTk (opTk (3 + j)) b = false) ∧ ∃ b, psigns[j]? = some b ∧ isTk (opTk (3 + j)) b = true := by
    intro j hj
    have h1 : ∀ j : Nat, j < 9 → ∀ m : Nat, m < j → ((psigns[m]?).map fun b => isTk (opTk (3 + (j : Int))) b) = some false := by decide +kernel
    have h2 : ∀ j : Nat, j < 9 → ((psigns[j]?).map fun b => isTk (opTk (3 + (j : Int))) b) = some true := by decide +kernel
    refine ⟨fun m hm b hb => ?_, ?_⟩
    · have := h1 j hj m hm
      rw [hb] at this
      simpa using this
    · have := h2 j hj
      cases hb : psigns[j]? with
      | none => rw [hb] at this; cases this
      | some b => rw [hb] at this; exact ⟨b, rfl, by simpa using this⟩
  obtain ⟨j, hj, rfl⟩ : ∃ j : Nat, j < 9 ∧ o = 3 + j := ⟨(o - 3).toNat, by omega, by omega⟩
  obtain ⟨k1, k2⟩ := key j hj
  exact opF_tk _ a r n psigns 3 j k1 k2

/-- The first word of a condition: which it is not. -/
theorem cond_first {t : Tree} (h : Shp t) : ∃ k r, condI t = .tk k :: r ∧ isTk k noB = false := by
  cases h with
  | int n h0 h1 => exact ⟨_, _, condI_lit _ rfl, rfl⟩
  | str s h => exact ⟨_, _, condI_lit _ rfl, rfl⟩
  | bool n h =>
    refine ⟨_, _, condI_lit _ rfl, ?_⟩
    rcases h with rfl | rfl <;> decide +kernel
  | fld a f ha hf => exact ⟨_, _, condI_fld a f, rfl⟩
  | not x hx => exact ⟨_, _, condI_not x, by decide +kernel⟩
  | two o h3 h11 x y hx hy => exact ⟨_, _, condI_two h3 h11 x y, by decide +kernel⟩

theorem litB_tk (t : Tk) (a : Nat) : litB (t.pw a) = (decide (t.k = 2) || decide (t.k = 3) || isTk t trB || isTk t faB) := by
  unfold litB; rw [isW_tk, isW_tk]; rfl
theorem litV_gr (t : Txt) (a : Nat) : litV ((Tk.gr t).pw a) = if isTk (.gr t) trB then (3, 1, t0) else if isTk (.gr t) faB then (3, 0, t0) else (0, 0, t0) := by
  unfold litV; rw [isW_tk, isW_tk]; rfl
/-- What a literal's word tells. -/
theorem lit_word (k : Tk) (a : Nat) (d : Dat) (hb : litB (k.pw a) = true) (hd : litD (k.pw a) = d) (f : Nat) (n nd : Int) (r : List Pw) (h5 : ¬ (5 < n ∨ 24 < nd + 1)) :
    nodeF (f + 1) n ⟨k.pw a :: r, nd, 0⟩ = (.mk d [], ⟨r, nd + 1, 0⟩) := by
  unfold nodeF
  simp only [headW]
  rw [if_neg (by rw [hb]; simp), if_neg h5, if_pos hb, hd]
  have := take_tk k a r (nd + 1) 0 (k.pw a).k rfl
  rw [this]
theorem node_open (a : Nat) (g : Nat) (m nd : Int) (r : List Pw) (h5 : ¬ (5 < m ∨ 24 < nd + 1)) :
    nodeF (g + 1) m ⟨(Tk.sg (tx [40])).pw a :: r, nd, 0⟩ =
      if isW (Ps.mk r (nd + 1) 0).head noB then (.mk (dOp 12) [(nodeF g (m + 1) (Ps.mk r (nd + 1) 0).tl).1], mustP (nodeF g (m + 1) (Ps.mk r (nd + 1) 0).tl).2 [cB])
      else (.mk (dOp (opP (nodeF g (m + 1) ⟨r, nd + 1, 0⟩).2).1) [(nodeF g (m + 1) ⟨r, nd + 1, 0⟩).1, (nodeF g (m + 1) (opP (nodeF g (m + 1) ⟨r, nd + 1, 0⟩).2).2).1], mustP (nodeF g (m + 1) (opP (nodeF g (m + 1) ⟨r, nd + 1, 0⟩).2).2).2 [cB]) := by
  have hl : litB ((Tk.sg (tx [40])).pw a) = false := by
    rw [litB_tk]; decide +kernel
  have ho : isW ((Tk.sg (tx [40])).pw a) oB = true := by rw [isW_tk]; decide +kernel
  have hk5 : ¬ ((Tk.sg (tx [40])).pw a).k = 1 := fun q => absurd (show (5 : Int) = 1 from q) (by decide)
  conv => lhs; unfold nodeF
  simp only [headW, must_tk (Tk.sg (tx [40])) a r (nd + 1) 0 oB (by decide +kernel)]
  rw [if_neg (fun q => by rw [ho] at q; exact absurd q.2.2 (by decide)), if_neg h5, if_neg (by rw [hl]; decide), if_neg hk5]
theorem node_parse {t : Tree} (h : Shp t) : ∀ (m f : Nat) (nd : Int) (a : Nat) (more : List Pw), shapedT m t = true → 7 ≤ f + m → nd + cntT (21 - m) t ≤ 24 →
    nodeF f m ⟨toksI a (condI t) ++ more, nd, 0⟩ = (t, ⟨more, nd + cntT (21 - m) t, 0⟩) := by
  have one : ∀ (m : Nat) (d : Dat), d.op ≠ 0 → m ≤ 5 → cntT (21 - m) (.mk d []) = 1 := by
    intro m d hd hm
    rw [cntT, if_neg (by omega), cntL]
  have lit : ∀ (d : Dat) (m f : Nat) (nd : Int) (a : Nat) (more : List Pw), d.op = 1 → (∀ a, litB ((litTk d).pw a) = true) → (∀ a, litD ((litTk d).pw a) = d) → shapedT m (.mk d []) = true → 7 ≤ f + m → nd + cntT (21 - m) (.mk d []) ≤ 24 →
      nodeF f m ⟨toksI a (condI (.mk d [])) ++ more, nd, 0⟩ = (.mk d [], ⟨more, nd + cntT (21 - m) (.mk d []), 0⟩) := by
    intro d m f nd a more ho hb hd hs hf hn
    rw [shapedT, Bool.and_eq_true, Bool.and_eq_true, decide_eq_true_eq] at hs
    rw [one m d (by omega) hs.1.1] at hn ⊢
    obtain ⟨g, rfl⟩ : ∃ g, f = g + 1 := ⟨f - 1, by omega⟩
    rw [condI_lit d ho]
    exact lit_word (litTk d) a d (hb a) (hd a) g m nd more (by omega)
  induction h with
  | int n h0 h1 => intro m f nd a more; exact lit _ m f nd a more rfl (fun _ => rfl) (fun _ => rfl)
  | str s h => intro m f nd a more; exact lit _ m f nd a more rfl (fun _ => rfl) (fun _ => rfl)
  | bool n h =>
    intro m f nd a more
    rcases h with rfl | rfl
    · refine lit _ m f nd a more rfl (fun a => ?_) (fun a => ?_)
      · show litB ((Tk.gr (tx [70, 65, 76, 83, 69])).pw a) = true
        rw [litB_tk]; decide +kernel
      · show litD ((Tk.gr (tx [70, 65, 76, 83, 69])).pw a) = _
        unfold litD
        rw [litV_gr, if_neg (by decide +kernel), if_pos (by decide +kernel)]
    · refine lit _ m f nd a more rfl (fun a => ?_) (fun a => ?_)
      · show litB ((Tk.gr (tx [84, 82, 85, 69])).pw a) = true
        rw [litB_tk]; decide +kernel
      · show litD ((Tk.gr (tx [84, 82, 85, 69])).pw a) = _
        unfold litD
        rw [litV_gr, if_pos (by decide +kernel)]
  | fld al fd ha hf =>
    intro m f nd a more hs hfm hn
    rw [shapedT, Bool.and_eq_true, Bool.and_eq_true, decide_eq_true_eq] at hs
    rw [one m _ (by simp) hs.1.1] at hn ⊢
    obtain ⟨g, rfl⟩ : ∃ g, f = g + 1 := ⟨f - 1, by omega⟩
    rw [condI_fld]
    have e : toksI a [.tk (.nm al), dotI, .tk (.nm fd)] ++ more = (Tk.nm al).pw a :: (Tk.sg (tx [46])).pw (a + (Tk.nm al).by.length) :: (Tk.nm fd).pw (a + (Tk.nm al).by.length + (Tk.sg (tx [46])).by.length) :: more := rfl
    rw [e]
    have hl : litB ((Tk.nm al).pw a) = false := by
      rw [litB_tk, name_no _ ⟨by simp [Tk.k], by simp [Tk.k]⟩, name_no _ ⟨by simp [Tk.k], by simp [Tk.k]⟩]; rfl
    have hk1 : ((Tk.nm al).pw a).k = 1 := rfl
    unfold nodeF
    simp only [headW]
    rw [if_neg (fun q => q.2.1 hk1), if_neg (by omega), if_neg (by rw [hl]; decide), if_pos hk1]
    unfold fieldP
    rw [take_tk (Tk.nm al) a _ _ _ 1 rfl]
    simp only
    rw [must_tk _ _ _ _ _ doB (by decide +kernel), take_tk (Tk.nm fd) _ _ _ _ 1 rfl]
    rfl
  | not x hx ih =>
    intro m f nd a more hs hfm hn
    rw [shapedT, Bool.and_eq_true, Bool.and_eq_true, decide_eq_true_eq, shapedL, Bool.and_eq_true] at hs
    obtain ⟨g, rfl⟩ : ∃ g, f = g + 1 := ⟨f - 1, by omega⟩
    have hc : cntT (21 - m) (.mk (dOp 12) [x]) = 1 + cntT (21 - (m + 1)) x := by
      rw [cntT, if_neg (by simp; omega), cntL, cntL, show 21 - m - 1 = 21 - (m + 1) by omega]; omega
    rw [hc] at hn ⊢
    rw [condI_not]
    have e : toksI a (opn :: notI :: .bl :: (condI x ++ [cls])) ++ more = (Tk.sg (tx [40])).pw a :: (Tk.gr (tx [78, 79, 84])).pw (a + (Tk.sg (tx [40])).by.length) :: (toksI (a + (Tk.sg (tx [40])).by.length + (Tk.gr (tx [78, 79, 84])).by.length + 1) (condI x) ++ ((Tk.sg (tx [41])).pw (a + (Tk.sg (tx [40])).by.length + (Tk.gr (tx [78, 79, 84])).by.length + 1 + (flatI (condI x)).length) :: more)) := by
      show _ :: _ :: (toksI _ (condI x ++ [cls]) ++ more) = _
      rw [toksI_append, List.append_assoc]; rfl
    rw [e, node_open a g m nd _ (by omega)]
    rw [headW, isW_tk, if_pos (by decide +kernel), tlW]
    have hx2 := ih (m + 1) g (nd + 1) (a + (Tk.sg (tx [40])).by.length + (Tk.gr (tx [78, 79, 84])).by.length + 1) ((Tk.sg (tx [41])).pw (a + (Tk.sg (tx [40])).by.length + (Tk.gr (tx [78, 79, 84])).by.length + 1 + (flatI (condI x)).length) :: more) hs.2.1 (by omega) (by omega)
    rw [show ((m + 1 : Nat) : Int) = (m : Int) + 1 by omega] at hx2
    rw [hx2]
    simp only
    rw [must_tk _ _ _ _ _ cB (by decide +kernel)]
    congr 2
    omega
  | two o h3 h11 x y hx hy ihx ihy =>
    intro m f nd a more hs hfm hn
    rw [shapedT, Bool.and_eq_true, Bool.and_eq_true, decide_eq_true_eq, shapedL, Bool.and_eq_true, shapedL, Bool.and_eq_true] at hs
    obtain ⟨g, rfl⟩ : ∃ g, f = g + 1 := ⟨f - 1, by omega⟩
    have hc : cntT (21 - m) (.mk (dOp o) [x, y]) = 1 + (cntT (21 - (m + 1)) x + cntT (21 - (m + 1)) y) := by
      rw [cntT, if_neg (by simp; omega), cntL, cntL, cntL, show 21 - m - 1 = 21 - (m + 1) by omega]; omega
    rw [hc] at hn ⊢
    rw [condI_two h3 h11]
    obtain ⟨k1, r1, ek, hk⟩ := cond_first hx
    obtain ⟨b1, hb1⟩ : ∃ b1, b1 = a + (Tk.sg (tx [40])).by.length := ⟨_, rfl⟩
    obtain ⟨b2, hb2⟩ : ∃ b2, b2 = b1 + (flatI (condI x)).length + 1 := ⟨_, rfl⟩
    obtain ⟨b3, hb3⟩ : ∃ b3, b3 = b2 + (opTk o).by.length + 1 := ⟨_, rfl⟩
    obtain ⟨b4, hb4⟩ : ∃ b4, b4 = b3 + (flatI (condI y)).length := ⟨_, rfl⟩
    have e : toksI a (opn :: (condI x ++ .bl :: .tk (opTk o) :: .bl :: (condI y ++ [cls]))) ++ more = (Tk.sg (tx [40])).pw a :: (toksI b1 (condI x) ++ ((opTk o).pw b2 :: (toksI b3 (condI y) ++ ((Tk.sg (tx [41])).pw b4 :: more)))) := by
      show _ :: (toksI _ (condI x ++ .bl :: .tk (opTk o) :: .bl :: (condI y ++ [cls])) ++ more) = _
      rw [toksI_append, List.append_assoc, hb4, hb3, hb2, hb1]
      congr 2
      show _ :: (toksI _ (condI y ++ [cls]) ++ more) = _
      rw [toksI_append, List.append_assoc]; rfl
    rw [e, node_open a g m nd _ (by omega)]
    have hno : isW (Ps.mk (toksI b1 (condI x) ++ ((opTk o).pw b2 :: (toksI b3 (condI y) ++ ((Tk.sg (tx [41])).pw b4 :: more)))) (nd + 1) 0).head noB = false := by
      rw [ek]
      show isW (k1.pw b1) noB = false
      rw [isW_tk]; exact hk
    rw [if_neg (by rw [hno]; decide)]
    have hx2 := ihx (m + 1) g (nd + 1) b1 ((opTk o).pw b2 :: (toksI b3 (condI y) ++ ((Tk.sg (tx [41])).pw b4 :: more))) hs.2.1 (by omega) (by omega)
    rw [show ((m + 1 : Nat) : Int) = (m : Int) + 1 by omega] at hx2
    rw [hx2]
    simp only
    rw [op_parse h3 h11]
    simp only
    have hy2 := ihy (m + 1) g (nd + 1 + cntT (21 - (m + 1)) x) b3 ((Tk.sg (tx [41])).pw b4 :: more) hs.2.2.1 (by omega) (by omega)
    rw [show ((m + 1 : Nat) : Int) = (m : Int) + 1 by omega] at hy2
    rw [hy2]
    simp only
    rw [must_tk _ _ _ _ _ cB (by decide +kernel)]
    congr 2
    omega
end Go.Proofs.YtmhpakhnclkenaaGreatDoor

namespace Go.Proofs.YtmhpakhnclkenaaGreatDoor
open Go.RowKit Go.Shelf

abbrev sgI (l : List UInt8) (h : l.length ≤ maxLen := by decide) : It := .tk (.sg (tx l h))
abbrev grI (l : List UInt8) (h : l.length ≤ maxLen := by decide) : It := .tk (.gr (tx l h))
def typesI : List Txt → List It
  | [] => []
  | [t] => [.tk (.nm t)]
  | t :: r => .tk (.nm t) :: sgI [124] :: typesI r
def askI (t : Tree) : List It := if t.dat.op = 0 then [] else sgI [91] :: (condI t ++ [sgI [93]])
def ntI (b : Bool) : List It := if b then [sgI [33]] else []
def plI (b : Bool) : List It := if b then [sgI [43]] else []
def elemI (e : Em) : List It := ntI e.nt ++ .tk (.nm e.al) :: sgI [58] :: (typesI e.ts ++ (plI e.pl ++ askI e.t))
def rowI : List Em → List It
  | [] => []
  | [e] => elemI e
  | e :: r => elemI e ++ sgI [44] :: .bl :: rowI r
def byI (t : Txt) : List It := if t.1.toList = [] then [] else [.bl, grI [66, 89], .bl, .tk (.nm t)]
def anyI (b : Bool) : List It := if b then [.bl, grI [65, 78, 89]] else []
def patI (q : Pt) : List It := grI [83, 69, 81] :: opn :: (rowI q.es ++ cls :: .bl :: grI [87, 73, 84, 72, 73, 78] :: .bl :: .tk (.nu q.wi) :: (byI q.nm ++ anyI q.any))

theorem types_flat : ∀ ts : List Txt, flatI (typesI ts) = (joinB ts).data.toList
  | [] => rfl
  | [t] => by simp [typesI, flatI, It.by, Tk.by, joinB, Lib.join, bl8]
  | t :: u :: r => by
    have ih := types_flat (u :: r)
    rw [typesI, flatI_tk, flatI_tk, ih]
    · simp [joinB, Lib.join, Tk.by, bl8]
    · simp

/-- What an element that may be is. -/
structure EmOk (e : Em) : Prop where
  al : nameB e.al.1 = true
  one : 1 ≤ e.ts.length
  few : e.ts.length ≤ 3
  ts : ∀ t ∈ e.ts, nameB t.1 = true
  c : e.t = e0 ∨ (Shp e.t ∧ shapedT 1 e.t = true ∧ cntT 20 e.t ≤ 24)
theorem same_e0 {t : Tree} (h : sameT t (.mk d0 []) = true) : t = e0 := by
  obtain ⟨⟨op, k, n, s, al, fd⟩, ks⟩ := t
  simp only [sameT, sameD, Bool.and_eq_true, decide_eq_true_eq] at h
  obtain ⟨⟨⟨⟨h1, h2, h3, h4⟩, h5⟩, h6⟩, h7, -⟩ := h
  obtain rfl : ks = [] := List.eq_nil_of_length_eq_zero h7
  have e1 : s = t0 := txt_nil (by rw [h4]; show (⟨#[]⟩ : ByteArray).toList.isEmpty = true; rw [nil_toList]; rfl)
  have e2 : al = t0 := txt_nil (by rw [eq_of_beq h5]; show (⟨#[]⟩ : ByteArray).toList.isEmpty = true; rw [nil_toList]; rfl)
  have e3 : fd = t0 := txt_nil (by rw [eq_of_beq h6]; show (⟨#[]⟩ : ByteArray).toList.isEmpty = true; rw [nil_toList]; rfl)
  subst e1 e2 e3 h1 h2 h3
  rfl
theorem elem_ok {e : Em} (hb : Bnd e.t) (h : elemB e = true) : EmOk e := by
  simp only [elemB, typesB, Bool.and_eq_true, Bool.or_eq_true, Bool.not_eq_true', decide_eq_true_eq] at h
  obtain ⟨⟨⟨h1, ⟨⟨h2, h3⟩, h4⟩, h5⟩, h6⟩, h7⟩ := h
  refine ⟨h1, h2, h3, noneNo h5, ?_⟩
  rcases h7 with h7 | h7
  · exact .inl (same_e0 h7)
  · have hs := isT_snd hb h7
    rw [isT_shaped, Bool.and_eq_true, decide_eq_true_eq] at h7
    exact .inr ⟨snd_shp hs, h7.1, h7.2⟩
theorem shp_op {t : Tree} (h : Shp t) : t.dat.op ≠ 0 := by
  cases h <;> simp
  omega
theorem ask_flat {e : Em} (h : EmOk e) : flatI (askI e.t) = flatB (askP e.t) := by
  rcases h.c with h | ⟨h, -, -⟩
  · rw [h]; rfl
  · have ho := shp_op h
    unfold askI askP
    rw [if_neg ho, if_neg ho, flatI_tk, flatI_append, flatI_tk, flatI_nil, cond_flat h]
    simp only [List.flatten_cons, List.flatten_nil, List.append_nil, flatB_append, flatB_one]
    rfl
theorem elem_flat {e : Em} (h : EmOk e) : flatI (elemI e) = flatB (elemP e) := by
  unfold elemI elemP
  rw [flatI_append, flatI_tk, flatI_tk, flatI_append, flatI_append, types_flat, ask_flat h]
  simp only [List.flatten_cons, List.flatten_nil, List.append_nil, flatB_append, flatB_cons]
  cases e.nt <;> cases e.pl <;> simp [ntI, plI, flatI, flatB, It.by, Tk.by, bl8]
theorem row_flat : ∀ (es : List Em), (∀ e ∈ es, EmOk e) → ∀ k : Nat, flatB ((es.zipIdx k).flatMap fun x => [if decide ((0 : Int) < x.2) then [csB] else [], elemP x.1]).flatten = (if k = 0 ∨ es = [] then [] else [44, 32]) ++ flatI (rowI es)
  | [], _, k => by simp [rowI, flatI, flatB]
  | e :: r, h, k => by
    have ih := row_flat r (fun x hx => h x (by simp [hx])) (k + 1)
    rw [List.zipIdx_cons, List.flatMap_cons, List.flatten_append, flatB_append, ih]
    have he := elem_flat (h e (by simp))
    simp only [List.flatten_cons, List.flatten_nil, List.append_nil, flatB_append]
    rw [← he]
    have hr : flatI (rowI (e :: r)) = flatI (elemI e) ++ ((if k + 1 = 0 ∨ r = [] then [] else [44, 32]) ++ flatI (rowI r)) := by
      cases r with
      | nil => simp [rowI, flatI]
      | cons x r => simp [rowI, flatI_append, flatI_tk, flatI_bl, Tk.by, bl8]
    rw [hr]
    have hc : flatB (if decide ((0 : Int) < (k : Nat)) then [csB] else []) = if k = 0 ∨ e :: r = [] then [] else [44, 32] := by
      by_cases hk : k = 0
      · simp [hk, flatB]
      · have h0 : (0 : Int) < (k : Int) := by omega
        rw [if_pos (by simpa using h0), if_neg (by simp [hk]), flatB_one]
    rw [hc]
    simp
theorem pat_flat {q : Pt} (h : ∀ e ∈ q.es, EmOk e) : flatI (patI q) = flatB (patP q) := by
  have hr := row_flat q.es h 0
  simp only [true_or, if_true, List.nil_append] at hr
  unfold patI patP
  rw [flatI_tk, flatI_tk, flatI_append, flatI_tk, flatI_bl, flatI_tk, flatI_bl, flatI_tk, flatI_append, ← hr]
  simp only [List.flatten_cons, List.flatten_nil, List.append_nil, flatB_append, flatB_cons, rowS]
  have hw : (Tk.nu q.wi).by = (itoaB q.wi).data.toList := by rw [← decB_itoa]; simp [Tk.by, decB]
  rw [hw]
  have hn : flatI (byI q.nm) = flatB (if !(q.nm.1.toList == []) then [byB, q.nm.1] else []) := by
    unfold byI
    by_cases hq : q.nm.1.toList = []
    · rw [if_pos hq, hq]; rfl
    · rw [if_neg hq, if_pos (by simpa using hq), flatI_bl, flatI_tk, flatI_bl, flatI_tk, flatI_nil, flatB_cons, flatB_one]
      simp [Tk.by, bl8]
  have ha : flatI (anyI q.any) = flatB (if q.any then [anyB] else []) := by cases q.any <;> simp [anyI, flatI, flatB, It.by, Tk.by, bl8]
  rw [hn, ha]
  simp [Tk.by, bl8, flatB]

/-! ### Each word is ended. -/
theorem endW_of {c : UInt8} {z : List UInt8} (h : inB 97 122 c.toNat = false ∧ inB 65 90 c.toNat = false ∧ inB 48 57 c.toNat = false) : endW (c :: z) := endW_one h
/-- What follows an element. -/
def endE (z : List UInt8) : Prop := ∃ c r, z = c :: r ∧ (c = 44 ∨ c = 41)
theorem types_good : ∀ ts : List Txt, (∀ t ∈ ts, nameB t.1 = true) → ∀ z, endW z → goodI (typesI ts) z
  | [], _, _, _ => trivial
  | [t], h, z, hz => ⟨h t (by simp), hz, trivial⟩
  | t :: u :: r, h, z, hz => by
    refine ⟨h t (by simp), ?_, soft_ok (by decide), soft_stop (by decide) _, types_good (u :: r) (fun x hx => h x (by simp [hx])) z hz⟩
    rw [flatI_tk]
    exact endW_one (c := 124) (by decide)
theorem ask_good {e : Em} (h : EmOk e) (z : List UInt8) : goodI (askI e.t) z := by
  rcases h.c with h | ⟨h, -, -⟩
  · rw [h]; exact trivial
  · unfold askI
    rw [if_neg (shp_op h)]
    refine ⟨soft_ok (by decide), soft_stop (by decide) _, ?_⟩
    rw [goodI_append]
    refine ⟨cond_good h _ ?_, soft_ok (by decide), soft_stop (by decide) _, trivial⟩
    rw [flatI_tk]
    exact endC_one (c := 93) (.inr (.inr rfl))
theorem elem_good2 {e : Em} (h : EmOk e) (z : List UInt8) (hz : endE z) : goodI (elemI e) z := by
  have hzW : endW z := by
    obtain ⟨c, r, rfl, hc⟩ := hz
    rcases hc with rfl | rfl
    · exact endW_one (by decide)
    · exact endW_one (by decide)
  have hask : endW (flatI (askI e.t) ++ z) := by
    rcases h.c with h | ⟨h, -, -⟩
    · rw [h]; exact hzW
    · unfold askI
      rw [if_neg (shp_op h), flatI_tk]
      exact endW_one (c := 91) (by decide)
  unfold elemI
  have hmain : goodI (.tk (.nm e.al) :: sgI [58] :: (typesI e.ts ++ (plI e.pl ++ askI e.t))) z := by
    refine ⟨h.al, ?_, soft_ok (by decide), soft_stop (by decide) _, ?_⟩
    · rw [flatI_tk]; exact endW_one (c := 58) (by decide)
    · rw [goodI_append, goodI_append]
      refine ⟨types_good _ h.ts _ ?_, ?_, ask_good h z⟩
      · cases e.pl
        · exact hask
        · rw [flatI_append]; exact endW_one (c := 43) (by decide)
      · cases e.pl
        · exact trivial
        · exact ⟨soft_ok (by decide), soft_stop (by decide) _, trivial⟩
  rw [goodI_append]
  refine ⟨?_, hmain⟩
  cases e.nt
  · exact trivial
  · refine ⟨hard_ok (by decide), .inr ?_, trivial⟩
    obtain ⟨c, r, e1, -⟩ := tk_head (.nm e.al) h.al
    have hal := h.al
    simp only [nameB, Bool.and_eq_true] at hal
    refine ⟨c, ?_, .inr ?_⟩
    · rw [flatI_tk, e1]; rfl
    · have hb : allB 97 122 (c :: r) = true := by rw [← e1]; exact hal.2
      simp only [allB, List.all_cons, Bool.and_eq_true] at hb
      exact hb.1
theorem row_good : ∀ es : List Em, (∀ e ∈ es, EmOk e) → ∀ z, endE z → goodI (rowI es) z
  | [], _, _, _ => trivial
  | [e], h, z, hz => elem_good2 (h e (by simp)) z hz
  | e :: u :: r, h, z, hz => by
    rw [rowI, goodI_append]
    · refine ⟨elem_good2 (h e (by simp)) _ ?_, soft_ok (by decide), soft_stop (by decide) _, row_good (u :: r) (fun x hx => h x (by simp [hx])) z hz⟩
      rw [flatI_tk]
      exact ⟨44, _, rfl, .inl rfl⟩
    · simp
/-- What a pattern that may be is. -/
structure PtOk (q : Pt) : Prop where
  es : ∀ e ∈ q.es, EmOk e
  some : q.es ≠ []
  few : q.es.length ≤ 5
  lo : 0 ≤ q.wi
  hi : q.wi ≤ 1000
  nm : q.nm.1.toList = [] ∨ nameB q.nm.1 = true
theorem pat_ok {q : Pt} (hb : ∀ e ∈ q.es, Bnd e.t) (h : patB q = true) : PtOk q := by
  obtain ⟨p1, p2, p3, p4, -⟩ := patB_parts h
  simp only [patB, rowB, Bool.and_eq_true, Bool.or_eq_true, decide_eq_true_eq] at h
  obtain ⟨⟨⟨⟨⟨-, h2⟩, -⟩, -⟩, -⟩, h5⟩ := h
  refine ⟨fun e he => elem_ok (hb e he) (p4 e he), ?_, p1, p2, p3, h5.imp List.isEmpty_iff.1 id⟩
  intro e
  rw [e] at h2
  cases h2
theorem pat_good2 {q : Pt} (h : PtOk q) : goodI (patI q) [] := by
  have hby : ∀ z, endW z → goodI (byI q.nm) z := by
    intro z hz
    unfold byI
    rcases h.nm with hn | hn
    · rw [if_pos hn]; exact trivial
    · split
      · exact trivial
      · refine ⟨gr_ok (by decide) (by decide) (by decide), ?_, hn, hz, trivial⟩
        rw [flatI_bl]; exact endW_one (c := 32) (by decide)
  have hany : goodI (anyI q.any) [] := by
    cases q.any
    · exact trivial
    · exact ⟨gr_ok (by decide) (by decide) (by decide), fun c hc => by simp [flatI] at hc, trivial⟩
  have hanyW : endW (flatI (anyI q.any) ++ []) := by
    cases q.any
    · intro c hc; simp [anyI, flatI] at hc
    · exact endW_one (c := 32) (by decide)
  have hbyW : endW (flatI (byI q.nm ++ anyI q.any) ++ []) := by
    unfold byI
    split
    · exact hanyW
    · exact endW_one (c := 32) (by decide)
  unfold patI
  refine ⟨gr_ok (by decide) (by decide) (by decide), ?_, soft_ok (by decide), soft_stop (by decide) _, ?_⟩
  · rw [flatI_tk]; exact endW_one (c := 40) (by decide)
  rw [goodI_append]
  refine ⟨row_good _ h.es _ ?_, soft_ok (by decide), soft_stop (by decide) _, gr_ok (by decide) (by decide) (by decide), ?_, ⟨by have := h.lo; omega, by have := h.hi; omega⟩, hbyW, ?_⟩
  · rw [flatI_tk]; exact ⟨41, _, rfl, .inr rfl⟩
  · rw [flatI_bl]; exact endW_one (c := 32) (by decide)
  · show goodI (byI q.nm ++ anyI q.any) []
    rw [goodI_append]
    refine ⟨hby _ hanyW, hany⟩

/-! ### The words are few. -/
theorem types_cnt : ∀ ts : List Txt, cntI (typesI ts) ≤ 2 * ts.length
  | [] => Nat.le_refl _
  | [t] => by simp [typesI, cntI]
  | t :: u :: r => by
    have := types_cnt (u :: r)
    rw [typesI, cntI_tk, cntI_tk]
    · simp at this ⊢; omega
    · simp
theorem elem_cnt {e : Em} (h : EmOk e) : cntI (elemI e) ≤ 84 := by
  have h1 := types_cnt e.ts
  have h2 := h.few
  have h3 : cntI (askI e.t) ≤ 74 := by
    rcases h.c with h | ⟨h, hs, hc⟩
    · rw [h]; show (0 : Nat) ≤ 74; omega
    · unfold askI
      rw [if_neg (shp_op h), cntI_tk, cntI_append, cntI_tk]
      have h7 := cond_cnt h 1 hs
      rw [show 21 - 1 = 20 from rfl] at h7
      have : cntI [] = 0 := rfl
      omega
  have h4 : cntI (ntI e.nt) ≤ 1 := by cases e.nt <;> simp [ntI, cntI]
  have h5 : cntI (plI e.pl) ≤ 1 := by cases e.pl <;> simp [plI, cntI]
  unfold elemI
  rw [cntI_append, cntI_tk, cntI_tk, cntI_append, cntI_append]
  omega
theorem row_cnt : ∀ es : List Em, (∀ e ∈ es, EmOk e) → cntI (rowI es) ≤ 85 * es.length
  | [], _ => Nat.le_refl _
  | [e], h => by have := elem_cnt (h e (by simp)); simp only [rowI, List.length_cons, List.length_nil]; omega
  | e :: u :: r, h => by
    have h1 := elem_cnt (h e (by simp))
    have h2 := row_cnt (u :: r) (fun x hx => h x (by simp [hx]))
    rw [rowI, cntI_append, cntI_tk, cntI_bl]
    · simp only [List.length_cons] at h2 ⊢; omega
    · simp
theorem pat_cnt {q : Pt} (h : PtOk q) : cntI (patI q) ≤ 500 := by
  have h1 := row_cnt q.es h.es
  have h2 := h.few
  have h3 : cntI (byI q.nm) ≤ 2 := by unfold byI; split <;> simp [cntI]
  have h4 : cntI (anyI q.any) ≤ 1 := by cases q.any <;> simp [anyI, cntI]
  unfold patI
  rw [cntI_tk, cntI_tk, cntI_append, cntI_tk, cntI_bl, cntI_tk, cntI_bl, cntI_tk, cntI_append]
  omega
end Go.Proofs.YtmhpakhnclkenaaGreatDoor

namespace Go.Proofs.YtmhpakhnclkenaaGreatDoor
open Go.RowKit Go.Shelf

theorem eat_yes (t : Tk) (a : Nat) (r : List Pw) (n e : Int) (b : ByteArray) (h : isTk t b = true) : eatP ⟨t.pw a :: r, n, e⟩ b = (true, ⟨r, n, e⟩) := by
  unfold eatP
  rw [headW, isW_tk, if_pos h, tlW]
theorem eat_no (w : Pw) (r : List Pw) (n e : Int) (b : ByteArray) (h : isW w b = false) : eatP ⟨w :: r, n, e⟩ b = (false, ⟨w :: r, n, e⟩) := by
  unfold eatP
  rw [headW, if_neg (by rw [h]; decide)]
theorem name_tk (t : Txt) (a : Nat) (r : List Pw) (n e : Int) : nameP ⟨(Tk.nm t).pw a :: r, n, e⟩ = (t, ⟨r, n, e⟩) := by
  unfold nameP
  rw [take_tk (Tk.nm t) a r n e 1 rfl]
  rfl
theorem types_parse : ∀ (ts : List Txt), ts ≠ [] → ∀ (a : Nat) (w : Pw) (more : List Pw) (nd : Int), isW w brB = false → partsP nameP brB ⟨toksI a (typesI ts) ++ w :: more, nd, 0⟩ = (ts, ⟨w :: more, nd, 0⟩)
  | [], h, _, _, _, _, _ => absurd rfl h
  | [t], _, a, w, more, nd, hw => by
    rw [partsP_eq nameP brB nameP_len]
    have e : toksI a (typesI [t]) ++ w :: more = (Tk.nm t).pw a :: w :: more := rfl
    rw [e, name_tk]
    simp only
    rw [headW, if_neg (by rw [hw]; decide)]
  | t :: u :: r, _, a, w, more, nd, hw => by
    rw [partsP_eq nameP brB nameP_len]
    have e : toksI a (typesI (t :: u :: r)) ++ w :: more = (Tk.nm t).pw a :: (Tk.sg (tx [124])).pw (a + (Tk.nm t).by.length) :: (toksI (a + (Tk.nm t).by.length + (Tk.sg (tx [124])).by.length) (typesI (u :: r)) ++ w :: more) := by
      rw [typesI]
      · rfl
      · simp
    rw [e, name_tk]
    simp only
    rw [headW, isW_tk, if_pos (by decide +kernel), tlW, types_parse (u :: r) (by simp) _ w more nd hw]
/-- What stands behind an element. -/
def sepK (k : Tk) : Prop := k = .sg (tx [44]) ∨ k = .sg (tx [41])
theorem sep_no {k : Tk} (h : sepK k) (a : Nat) : isW (k.pw a) brB = false ∧ isW (k.pw a) psB = false ∧ isW (k.pw a) sqoB = false := by
  rw [isW_tk, isW_tk, isW_tk]
  rcases h with rfl | rfl <;> decide +kernel
theorem elem_parse {e : Em} (h : EmOk e) (k : Tk) (hk : sepK k) (a b : Nat) (more : List Pw) (nd : Int) : ∃ nd', elemQ ⟨toksI a (elemI e) ++ k.pw b :: more, nd, 0⟩ = (e, ⟨k.pw b :: more, nd', 0⟩) := by
  obtain ⟨al, ts, pl, nt, t⟩ := e
  obtain ⟨s1, s2, s3⟩ := sep_no hk b
  have hne : ts ≠ [] := by intro e; have := h.one; rw [e] at this; simp at this
  -- the condition's end
  have hcond : ∀ (c : Nat) (nd : Int) (al : Txt) (ts : List Txt) (pl nt : Bool), ∃ nd',
      (let q := eatP ⟨toksI c (askI t) ++ k.pw b :: more, nd, 0⟩ sqoB
       if q.1 then ((⟨al, ts, pl, nt, (condF q.2).1⟩ : Em), mustP (condF q.2).2 [sqcB]) else (⟨al, ts, pl, nt, e0⟩, q.2)) = ((⟨al, ts, pl, nt, t⟩ : Em), ⟨k.pw b :: more, nd', 0⟩) := by
    intro c nd al ts pl nt
    rcases h.c with h0 | ⟨h0, hs, hc⟩
    · have ht : t = e0 := h0
      subst ht
      refine ⟨nd, ?_⟩
      have e : toksI c (askI e0) ++ k.pw b :: more = k.pw b :: more := rfl
      rw [e, eat_no _ _ _ _ _ s3]
      rfl
    · have ho := shp_op h0
      refine ⟨0 + cntT (21 - 1) t, ?_⟩
      have e : toksI c (askI t) ++ k.pw b :: more = (Tk.sg (tx [91])).pw c :: (toksI (c + (Tk.sg (tx [91])).by.length) (condI t) ++ ((Tk.sg (tx [93])).pw (c + (Tk.sg (tx [91])).by.length + (flatI (condI t)).length) :: k.pw b :: more)) := by
        unfold askI
        rw [if_neg ho]
        show _ :: (toksI _ (condI t ++ [sgI [93]]) ++ _) = _
        rw [toksI_append, List.append_assoc]; rfl
      rw [e, eat_yes _ _ _ _ _ _ (by decide +kernel)]
      simp only [if_true]
      have hn := node_parse h0 1 6 0 (c + (Tk.sg (tx [91])).by.length) ((Tk.sg (tx [93])).pw (c + (Tk.sg (tx [91])).by.length + (flatI (condI t)).length) :: k.pw b :: more) hs (by decide) (by have h24 : cntT 20 t ≤ 24 := hc; rw [show 21 - 1 = 20 from rfl]; omega)
      unfold condF
      simp only
      rw [show ((1 : Nat) : Int) = 1 from rfl] at hn
      rw [hn]
      simp only
      rw [must_tk _ _ _ _ _ sqcB (by decide +kernel)]
  -- the first word behind the types
  have hfirst : ∀ c : Nat, ∃ w r, toksI c (plI pl ++ askI t) ++ k.pw b :: more = w :: r ∧ isW w brB = false := by
    intro c
    cases pl
    · rcases h.c with h0 | ⟨h0, hs, hc⟩
      · have ht : t = e0 := h0
        subst ht
        exact ⟨_, _, rfl, s1⟩
      · have ho := shp_op h0
        refine ⟨(Tk.sg (tx [91])).pw c, toksI (c + (Tk.sg (tx [91])).by.length) (condI t ++ [sgI [93]]) ++ k.pw b :: more, ?_, ?_⟩
        · show toksI c (askI t) ++ _ = _
          unfold askI
          rw [if_neg ho]; rfl
        · rw [isW_tk]; decide +kernel
    · exact ⟨_, _, rfl, by rw [isW_tk]; decide +kernel⟩
  have main : ∀ (a : Nat) (nd : Int), ∃ nd',
      (let a' := nameP ⟨toksI a (.tk (.nm al) :: sgI [58] :: (typesI ts ++ (plI pl ++ askI t))) ++ k.pw b :: more, nd, 0⟩
       let ts' := partsP nameP brB (mustP a'.2 [clnB])
       let p := eatP ts'.2 psB
       let q := eatP p.2 sqoB
       if q.1 then ((⟨a'.1, ts'.1, p.1, nt, (condF q.2).1⟩ : Em), mustP (condF q.2).2 [sqcB]) else (⟨a'.1, ts'.1, p.1, nt, e0⟩, q.2)) = ((⟨al, ts, pl, nt, t⟩ : Em), ⟨k.pw b :: more, nd', 0⟩) := by
    intro a nd
    obtain ⟨c0, hc0⟩ : ∃ c, c = a + (Tk.nm al).by.length + (Tk.sg (tx [58])).by.length := ⟨_, rfl⟩
    obtain ⟨c1, hc1⟩ : ∃ c, c = c0 + (flatI (typesI ts)).length := ⟨_, rfl⟩
    have e : toksI a (.tk (.nm al) :: sgI [58] :: (typesI ts ++ (plI pl ++ askI t))) ++ k.pw b :: more = (Tk.nm al).pw a :: (Tk.sg (tx [58])).pw (a + (Tk.nm al).by.length) :: (toksI c0 (typesI ts) ++ (toksI c1 (plI pl ++ askI t) ++ k.pw b :: more)) := by
      rw [hc1, hc0]
      show _ :: _ :: (toksI _ (typesI ts ++ (plI pl ++ askI t)) ++ _) = _
      rw [toksI_append, List.append_assoc]
    rw [e, name_tk]
    simp only
    rw [must_tk _ _ _ _ _ clnB (by decide +kernel)]
    obtain ⟨w, r, ew, hw⟩ := hfirst c1
    rw [ew, types_parse ts hne c0 w r nd hw, ← ew]
    simp only
    cases pl
    · obtain ⟨nd', hnd⟩ := hcond c1 nd al ts false nt
      refine ⟨nd', ?_⟩
      have e2 : toksI c1 (plI false ++ askI t) ++ k.pw b :: more = toksI c1 (askI t) ++ k.pw b :: more := rfl
      rw [e2]
      have hps : eatP ⟨toksI c1 (askI t) ++ k.pw b :: more, nd, 0⟩ psB = (false, ⟨toksI c1 (askI t) ++ k.pw b :: more, nd, 0⟩) := by
        rcases h.c with h0 | ⟨h0, hs, hc⟩
        · have ht : t = e0 := h0
          subst ht
          exact eat_no _ _ _ _ _ s2
        · have ho := shp_op h0
          have e3 : toksI c1 (askI t) ++ k.pw b :: more = (Tk.sg (tx [91])).pw c1 :: (toksI (c1 + (Tk.sg (tx [91])).by.length) (condI t ++ [sgI [93]]) ++ k.pw b :: more) := by
            unfold askI
            rw [if_neg ho]; rfl
          rw [e3]
          exact eat_no _ _ _ _ _ (by rw [isW_tk]; decide +kernel)
      rw [hps]
      exact hnd
    · obtain ⟨nd', hnd⟩ := hcond (c1 + (Tk.sg (tx [43])).by.length) nd al ts true nt
      refine ⟨nd', ?_⟩
      have e2 : toksI c1 (plI true ++ askI t) ++ k.pw b :: more = (Tk.sg (tx [43])).pw c1 :: (toksI (c1 + (Tk.sg (tx [43])).by.length) (askI t) ++ k.pw b :: more) := rfl
      rw [e2, eat_yes _ _ _ _ _ _ (by decide +kernel)]
      exact hnd
  cases nt
  · obtain ⟨nd', hnd⟩ := main a nd
    refine ⟨nd', ?_⟩
    have hb : eatP ⟨toksI a (elemI ⟨al, ts, pl, false, t⟩) ++ k.pw b :: more, nd, 0⟩ bgB = (false, ⟨toksI a (.tk (.nm al) :: sgI [58] :: (typesI ts ++ (plI pl ++ askI t))) ++ k.pw b :: more, nd, 0⟩) := by
      exact eat_no ((Tk.nm al).pw a) _ _ _ _ (by rw [isW_tk, name_no _ ⟨by simp [Tk.k], by simp [Tk.k]⟩])
    unfold elemQ
    rw [hb]
    exact hnd
  · obtain ⟨nd', hnd⟩ := main (a + (Tk.sg (tx [33])).by.length) nd
    refine ⟨nd', ?_⟩
    have hb : eatP ⟨toksI a (elemI ⟨al, ts, pl, true, t⟩) ++ k.pw b :: more, nd, 0⟩ bgB = (true, ⟨toksI (a + (Tk.sg (tx [33])).by.length) (.tk (.nm al) :: sgI [58] :: (typesI ts ++ (plI pl ++ askI t))) ++ k.pw b :: more, nd, 0⟩) := by
      exact eat_yes (Tk.sg (tx [33])) a _ _ _ _ (by decide +kernel)
    unfold elemQ
    rw [hb]
    exact hnd
theorem row_parse : ∀ (es : List Em), es ≠ [] → (∀ e ∈ es, EmOk e) → ∀ (a b : Nat) (more : List Pw) (nd : Int), ∃ nd', partsP elemQ cmB ⟨toksI a (rowI es) ++ (Tk.sg (tx [41])).pw b :: more, nd, 0⟩ = (es, ⟨(Tk.sg (tx [41])).pw b :: more, nd', 0⟩)
  | [], h, _, _, _, _, _ => absurd rfl h
  | [e], _, h, a, b, more, nd => by
    obtain ⟨nd', hnd⟩ := elem_parse (h e (by simp)) (.sg (tx [41])) (.inr rfl) a b more nd
    refine ⟨nd', ?_⟩
    rw [partsP_eq elemQ cmB elemQ_len]
    show (if isW (elemQ ⟨toksI a (elemI e) ++ _, nd, 0⟩).2.head cmB then _ else _) = _
    rw [hnd]
    simp only
    rw [headW, isW_tk, if_neg (by decide +kernel)]
    show ([(elemQ ⟨toksI a (elemI e) ++ _, nd, 0⟩).1], (elemQ ⟨toksI a (elemI e) ++ _, nd, 0⟩).2) = _
    rw [hnd]
  | e :: u :: r, _, h, a, b, more, nd => by
    obtain ⟨c, hc⟩ : ∃ c, c = a + (flatI (elemI e)).length := ⟨_, rfl⟩
    have er : toksI a (rowI (e :: u :: r)) ++ (Tk.sg (tx [41])).pw b :: more = toksI a (elemI e) ++ (Tk.sg (tx [44])).pw c :: (toksI (c + (Tk.sg (tx [44])).by.length + 1) (rowI (u :: r)) ++ (Tk.sg (tx [41])).pw b :: more) := by
      rw [rowI, toksI_append, List.append_assoc, hc]
      · rfl
      · simp
    obtain ⟨nd1, h1⟩ := elem_parse (h e (by simp)) (.sg (tx [44])) (.inl rfl) a c (toksI (c + (Tk.sg (tx [44])).by.length + 1) (rowI (u :: r)) ++ (Tk.sg (tx [41])).pw b :: more) nd
    obtain ⟨nd2, h2⟩ := row_parse (u :: r) (by simp) (fun x hx => h x (by simp [hx])) (c + (Tk.sg (tx [44])).by.length + 1) b more nd1
    refine ⟨nd2, ?_⟩
    rw [er, partsP_eq elemQ cmB elemQ_len, h1]
    simp only
    rw [headW, isW_tk, if_pos (by decide +kernel), tlW, h2]
theorem pat_parse {q : Pt} (h : PtOk q) : ∃ nd', patternQ ⟨toksI 0 (patI q), 0, 0⟩ = (q, ⟨[], nd', 0⟩) := by
  obtain ⟨es, wi, nm, any⟩ := q
  obtain ⟨c0, hc0⟩ : ∃ c, c = 0 + (Tk.gr (tx [83, 69, 81])).by.length := ⟨_, rfl⟩
  obtain ⟨c1, hc1⟩ : ∃ c, c = c0 + (Tk.sg (tx [40])).by.length := ⟨_, rfl⟩
  obtain ⟨c2, hc2⟩ : ∃ c, c = c1 + (flatI (rowI es)).length := ⟨_, rfl⟩
  obtain ⟨c3, hc3⟩ : ∃ c, c = c2 + (Tk.sg (tx [41])).by.length + 1 := ⟨_, rfl⟩
  obtain ⟨c4, hc4⟩ : ∃ c, c = c3 + (Tk.gr (tx [87, 73, 84, 72, 73, 78])).by.length + 1 := ⟨_, rfl⟩
  obtain ⟨c5, hc5⟩ : ∃ c, c = c4 + (Tk.nu wi).by.length := ⟨_, rfl⟩
  have e : toksI 0 (patI ⟨es, wi, nm, any⟩) = (Tk.gr (tx [83, 69, 81])).pw 0 :: (Tk.sg (tx [40])).pw c0 :: (toksI c1 (rowI es) ++ (Tk.sg (tx [41])).pw c2 :: (Tk.gr (tx [87, 73, 84, 72, 73, 78])).pw c3 :: (Tk.nu wi).pw c4 :: toksI c5 (byI nm ++ anyI any)) := by
    rw [hc5, hc4, hc3, hc2, hc1, hc0]
    show _ :: _ :: toksI _ (rowI es ++ cls :: .bl :: grI [87, 73, 84, 72, 73, 78] :: .bl :: .tk (.nu wi) :: (byI nm ++ anyI any)) = _
    rw [toksI_append]; rfl
  obtain ⟨nd1, h1⟩ := row_parse es h.some h.es c1 c2 ((Tk.gr (tx [87, 73, 84, 72, 73, 78])).pw c3 :: (Tk.nu wi).pw c4 :: toksI c5 (byI nm ++ anyI any)) 0
  refine ⟨nd1, ?_⟩
  rw [e]
  unfold patternQ
  have hm : ∀ (s : Ps) (x y : ByteArray), mustP s [x, y] = mustP (mustP s [x]) [y] := fun _ _ _ => rfl
  rw [hm, must_tk _ _ _ _ _ seB (by decide +kernel), must_tk _ _ _ _ _ oB (by decide +kernel)]
  simp only
  rw [h1]
  simp only
  rw [hm, must_tk _ _ _ _ _ cB (by decide +kernel), must_tk _ _ _ _ _ withB (by decide +kernel), take_tk (Tk.nu wi) _ _ _ _ 2 rfl]
  simp only
  have hany : ∀ (c : Nat) (nd : Int), eatP ⟨toksI c (anyI any), nd, 0⟩ anB = (any, ⟨[], nd, 0⟩) := by
    intro c nd
    cases any
    · show eatP ⟨[], nd, 0⟩ anB = _
      unfold eatP
      rw [if_neg (by show ¬ isW pw0 anB = true; decide +kernel)]
    · show eatP ⟨(Tk.gr (tx [65, 78, 89])).pw (c + 1) :: [], nd, 0⟩ anB = _
      rw [eat_yes _ _ _ _ _ _ (by decide +kernel)]
  by_cases hn : nm.1.toList = []
  · have hb : eatP ⟨toksI c5 (byI nm ++ anyI any), nd1, 0⟩ byyB = (false, ⟨toksI c5 (anyI any), nd1, 0⟩) := by
      unfold byI
      rw [if_pos hn, List.nil_append]
      cases any
      · show eatP ⟨[], nd1, 0⟩ byyB = _
        unfold eatP
        rw [if_neg (by show ¬ isW pw0 byyB = true; decide +kernel)]; rfl
      · show eatP ⟨(Tk.gr (tx [65, 78, 89])).pw (c5 + 1) :: [], nd1, 0⟩ byyB = _
        rw [eat_no _ _ _ _ _ (by rw [isW_tk]; decide +kernel)]; rfl
    rw [hb]
    simp only [Bool.false_eq_true, if_false]
    rw [hany, show nm = t0 from txt_nil (List.isEmpty_iff.2 hn)]
    rfl
  · obtain ⟨c6, hc6⟩ : ∃ c, c = c5 + 1 + (Tk.gr (tx [66, 89])).by.length + 1 := ⟨_, rfl⟩
    have hb : eatP ⟨toksI c5 (byI nm ++ anyI any), nd1, 0⟩ byyB = (true, ⟨(Tk.nm nm).pw c6 :: toksI (c6 + (Tk.nm nm).by.length) (anyI any), nd1, 0⟩) := by
      unfold byI
      rw [if_neg hn, hc6]
      exact eat_yes (Tk.gr (tx [66, 89])) (c5 + 1) _ _ _ _ (by decide +kernel)
    rw [hb]
    simp only [if_true]
    rw [name_tk]
    simp only
    rw [hany]
    rfl

/-- What a condition's text is, read. -/
theorem expr_back {t : Tree} (hb : Bnd t) (h : isT t = true) : exprF (readP (exprB t)) = (t, 0) := by
  have hs := snd_shp (isT_snd hb h)
  have h2 := h
  rw [isT_shaped, Bool.and_eq_true, decide_eq_true_eq] at h2
  have hg := cond_good hs [] (fun c hc => by simp at hc)
  have hc : cntI (condI t) ≤ 500 := by
    have := cond_cnt hs 1 h2.1
    rw [show 21 - 1 = 20 from rfl] at this
    omega
  rw [exprB_yes h, txtB, ← cond_flat hs, read_items _ hg hc]
  have hn := node_parse hs 1 6 0 0 [] h2.1 (by decide) (by have : cntT (21 - 1) t ≤ 24 := h2.2; omega)
  rw [List.append_nil] at hn
  unfold exprF condF
  simp only
  rw [show ((1 : Nat) : Int) = 1 from rfl] at hn
  rw [hn]
  rfl
/-- What a pattern's text is, read. -/
theorem patt_back {q : Pt} (hb : ∀ e ∈ q.es, Bnd e.t) (h : patB q = true) : patF (readP (pattB q)) = (q, 0) := by
  have ho := pat_ok hb h
  obtain ⟨nd, hp⟩ := pat_parse ho
  rw [pattB_yes h, txtB, ← pat_flat ho.es, read_items _ (pat_good2 ho) (pat_cnt ho)]
  unfold patF
  rw [hp]
  simp only
  have hz : lastP (patB q) (endP ⟨[], nd, 0⟩) = ⟨[], nd, 0⟩ := by rw [h]; rfl
  rw [hz]
  rfl
end Go.Proofs.YtmhpakhnclkenaaGreatDoor

namespace Go.Proofs.YtmhpakhnclkenaaGreatDoor

theorem back_only (s : ByteArray) (h : (patF (readP s)).2 = 0) : patF (readP (pattB (patF (readP s)).1)) = ((patF (readP s)).1, 0) :=
  patt_back (patF_bnd s) (patF_good (s := readP s) (by rw [← h]))

end Go.Proofs.YtmhpakhnclkenaaGreatDoor
