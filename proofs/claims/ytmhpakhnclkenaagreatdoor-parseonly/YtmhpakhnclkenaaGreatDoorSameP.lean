/-
  What the document's ShowPattern answers: the text that the pieces of a pattern make, where it is as it may be; else the empty text.
  What the document's SameTexts, SameElem and SamePattern answer: for all rows that lie, in whatever world; nothing that lay is turned.
-/
import Derived.Test.YtmhpakhnclkenaaGreatDoorFaces
import Derived.Test.YtmhpakhnclkenaaGreatDoorPat
namespace Go.Proofs.YtmhpakhnclkenaaGreatDoor
open Go.RowKit Go.Shelf

theorem bytes_nil (a : ByteArray) : a ++ ⟨#[]⟩ = a := eq_of_list (by simp)
/-- The text of a pattern's row, its beginning ahead. -/
def rowT (es : List Em) : ByteArray := seqB ++ txtB (rowS es).flatten
/-- What an element adds to it. -/
def sepT (i : Nat) : ByteArray := if 0 < i then csB else ⟨#[]⟩
def notT (e : Em) : ByteArray := if e.nt then exB else ⟨#[]⟩
def plT (e : Em) : ByteArray := if e.pl then plB else ⟨#[]⟩
theorem txtB_flat (a b : List (List ByteArray)) : txtB (a ++ b).flatten = txtB a.flatten ++ txtB b.flatten := by rw [List.flatten_append, txtB_append]
theorem txtB_cons (x : ByteArray) (ps : List ByteArray) : txtB (x :: ps) = x ++ txtB ps := by
  rw [show x :: ps = [x] ++ ps from rfl, txtB_append, txtB_one]
theorem txt_elem (e : Em) : txtB (elemP e) = notT e ++ (e.al.1 ++ (coB ++ (joinB e.ts ++ (plT e ++ txtB (askP e.t))))) := by
  unfold elemP notT plT
  cases e.nt <;> cases e.pl <;> exact eq_of_list (by simp [txtB, flatB])
theorem rowT_snoc (es : List Em) (e : Em) : rowT (es ++ [e]) = (((((rowT es ++ sepT es.length) ++ notT e) ++ e.al.1) ++ coB) ++ joinB e.ts) ++ plT e ++ txtB (askP e.t) := by
  unfold rowT
  rw [rowS_snoc, txtB_flat]
  have e1 : txtB [if decide ((0 : Int) < es.length) then [csB] else [], elemP e].flatten = sepT es.length ++ txtB (elemP e) := by
    rw [List.flatten_cons, List.flatten_cons, List.flatten_nil, List.append_nil, txtB_append]
    unfold sepT
    by_cases h : 0 < es.length
    · rw [if_pos (by simpa using h), if_pos h, txtB_one]
    · rw [if_neg (by simpa using h), if_neg h]; rfl
  rw [e1, txt_elem]
  simp only [bytes_assoc]
theorem joinB_zero : joinB [] = ⟨#[]⟩ := rfl
theorem joinB_snoc (ts : List Txt) (t : Txt) : joinB (ts ++ [t]) = (if ts.length = 0 then joinB ts else joinB ts ++ barB) ++ t.1 := by
  have key : ∀ l : List Txt, l ≠ [] → joinB (l ++ [t]) = joinB l ++ barB ++ t.1 := by
    intro l
    induction l with
    | nil => intro h; exact absurd rfl h
    | cons x l ih =>
      intro _
      cases l with
      | nil => exact eq_of_list (by simp [joinB, Lib.join, List.intercalate])
      | cons y l =>
        have h1 := ih (by simp)
        have h2 : ∀ (z : List Txt), z ≠ [] → joinB (x :: z) = x.1 ++ barB ++ joinB z := by
          intro z hz
          cases z with
          | nil => exact absurd rfl hz
          | cons z zs => exact eq_of_list (by simp [joinB, Lib.join, List.intercalate])
        rw [show x :: y :: l ++ [t] = x :: (y :: l ++ [t]) from rfl, h2 _ (by simp), h1, h2 _ (by simp)]
        simp only [bytes_assoc]
  by_cases h : ts.length = 0
  · rw [if_pos h, List.eq_nil_of_length_eq_zero h]
    exact eq_of_list (by simp [joinB, Lib.join, List.intercalate])
  · rw [if_neg h]; exact key ts (by intro e; rw [e] at h; exact h rfl)
theorem rowT_size (es : List Em) (h5 : es.length ≤ 5) (hl : ∀ e ∈ es, (flatB (elemP e)).length ≤ 12300) : (rowT es).size ≤ 61514 := by
  unfold rowT
  have h1 : (flatB (rowS es).flatten).length ≤ es.length * (12300 + 2) := rowS_bound 12300 es 0 hl
  have h2 : es.length * (12300 + 2) ≤ 5 * (12300 + 2) := Nat.mul_le_mul_right _ h5
  rw [ByteArray.size_append, txtB_size]
  show 4 + _ ≤ _
  omega
theorem patT (q : Pt) : txtB (patP q) = ((rowT q.es ++ wiB) ++ itoaB q.wi) ++ ((if !(q.nm.1.toList == []) then byB ++ q.nm.1 else ⟨#[]⟩) ++ (if q.any then anyB else ⟨#[]⟩)) := by
  unfold patP rowT
  rw [List.flatten_cons, txtB_append, txtB_one, List.flatten_cons, txtB_append, List.flatten_cons, txtB_append, List.flatten_cons, txtB_append, List.flatten_cons, List.flatten_nil, List.append_nil, txtB_cons, txtB_one]
  have e1 : txtB (if !(q.nm.1.toList == []) then [byB, q.nm.1] else []) = (if !(q.nm.1.toList == []) then byB ++ q.nm.1 else ⟨#[]⟩) := by
    split
    · rw [txtB_cons, txtB_one]
    · rfl
  have e2 : txtB (if q.any then [anyB] else []) = (if q.any then anyB else ⟨#[]⟩) := by
    split
    · rw [txtB_one]
    · rfl
  rw [e1, e2]
  simp only [bytes_assoc]

set_option maxRecDepth 100000 in
set_option maxHeartbeats 8000000 in
theorem refShowP_c (q : Pt) (a : Option Addr) (cap : Nat) (hb : ∀ e ∈ q.es, Bnd e.t) (w : World) (hE : Ems w.heap.size w a q.es) :
    Calls Tryz.prog 15 #[q.v a cap] w fun r w' => r = .returned (.string (pattB q)) ∧ Below w.heap.size w w' := by
  obtain ⟨W0, hW0⟩ : ∃ W0, W0 = w.alloc (.cells (q.cs a cap) 36) := ⟨_, rfl⟩
  have b0 : Below w.heap.size w W0 := by rw [hW0]; exact (Below.refl _ _).alloc (Nat.le_refl _) _
  have x0 : Box W0 w.heap.size 36 (q.cs a cap) := by rw [hW0]; exact Box.new _ _ _
  have hlen := hE.1
  obtain ⟨es, wi, nm, any⟩ := q
  obtain ⟨h0, h1, h2, h3⟩ := x0.four
  simp only at hlen h0 h1 h2 h3 hb hE
  have cS := hide (refPat_c ⟨es, wi, nm, any⟩ a cap W0 (hE.on b0))
  obtain ⟨g, hg⟩ : ∃ g, g = patB ⟨es, wi, nm, any⟩ := ⟨_, rfl⟩
  rw [← hg] at cS
  replace hg := hide hg
  replace hE := hide hE
  replace hb := hide hb
  go_enter Tryz.func15, Tryz.ntmps15
  go_upto_region 1 with fail
  rw [show Obj.cells #[Value.slice a es.length cap, .int .i64 wi, .string nm.1, .bool any] 36 = Obj.cells (Pt.cs ⟨es, wi, nm, any⟩ a cap) 36 from rfl, ← hW0]
  clear hW0
  go_wp2_with fail
  refine (unhide cS).mono ?_
  rintro e W1 ⟨rfl, hb1⟩
  have b1 := b0.trans (hb1.mono b0.size)
  have x1 := x0.on hb1 x0.lt
  clear cS h0 h1 h2 h3
  obtain ⟨h0, h1, h2, h3⟩ := x1.four
  cases g
  · have H := hide (pattB_no (unhide hg).symm)
    go_wp2_with fail
    go_ret
    exact ⟨by rw [unhide H]; rfl, b1⟩
  have HY := hide ((pattB_yes (unhide hg).symm).trans (patT _))
  obtain ⟨h5, hw0, hw1, hee, hn8⟩ := patB_parts (unhide hg).symm
  simp only at h5 hw0 hw1 hee hn8
  have hel := hide (fun e he => elem_len (unhide hb e he) (hee e he))
  replace hee := hide hee
  have hE1 := hide ((unhide hE).on b1)
  clear hE
  have hes : (es.length : Int) ≤ 5 := by omega
  go_wp2_with fail
  go_loopw [3, 4] (fun vt vi wr => ∃ i : Nat, i ≤ es.length ∧ vi = .int .i64 i ∧ vt = .string (rowT (es.take i)) ∧ Below W1.heap.size W1 wr) (fun _ vi _ => es.length - (intOf vi).toNat)
  case atStart => exact ⟨0, Nat.zero_le _, rfl, rfl, Below.refl _ _⟩
  case round =>
    obtain ⟨i, hi, rfl, rfl, hB⟩ := hrel
    obtain ⟨Wr, eWr⟩ : ∃ Wr, Wr = wr := ⟨_, rfl⟩
    subst eWr
    clear h0 h1 h2 h3
    have xr := x1.on hB x1.lt
    obtain ⟨h0, h1, h2, h3⟩ := xr.four
    simp only at h0 h1 h2 h3
    have br : Below w.heap.size w Wr := b1.trans (hB.mono b1.size)
    have hX := rowT_size (es.take i) (by simp; omega) (fun e he => unhide hel e (List.mem_of_mem_take he))
    by_cases hlt : i < es.length
    · obtain ⟨e, he⟩ : ∃ e, es[i]? = some e := ⟨_, List.getElem?_eq_getElem hlt⟩
      have hmem := List.mem_of_getElem? he
      have htk : rowT (es.take (i + 1)) = (((((rowT (es.take i) ++ sepT i) ++ notT e) ++ e.al.1) ++ coB) ++ joinB e.ts) ++ plT e ++ txtB (askP e.t) := by
        have e1 : es.take (i + 1) = es.take i ++ [e] := by rw [List.take_succ_eq_append_getElem hlt]; simp [List.getElem?_eq_getElem hlt] at he; rw [he]
        rw [e1, rowT_snoc, List.length_take, Nat.min_eq_left hi]
      replace htk := hide htk
      generalize rowT (es.take i) = X at htk hX ⊢
      obtain ⟨hgood, ha8, hask⟩ := elem_good (unhide hb e hmem) (unhide hee e hmem)
      obtain ⟨b, off, p, ea, hbn, hcs, hin⟩ := ((unhide hE1).on hB).at he
      have hd0 := hcs 0 _ rfl
      have hd1 := hcs 1 _ rfl
      have hd2 := hcs 2 _ rfl
      have hd3 := hcs 3 _ rfl
      have hd4 := hcs 4 _ rfl
      have hd5 := hcs 5 _ rfl
      have hd6 := hcs 6 _ rfl
      have hd7 := hcs 7 _ rfl
      have hd8 := hcs 8 _ rfl
      have hd9 := hcs 9 _ rfl
      have hd10 := hcs 10 _ rfl
      rw [Nat.add_zero] at hd0
      clear hcs he
      subst ea
      have hkl : (i : Int) < es.length := by omega
      have hk0 : (0 : Int) ≤ i := by omega
      replace hin := hide hin
      replace hgood := hide hgood
      obtain ⟨eal, ets, epl, ent, ⟨td, tk⟩⟩ := e
      go_upto_region 8 with fail
      obtain ⟨Wi, hWi⟩ : ∃ Wi, Wi = Wr.alloc (.cells (Em.cs ⟨eal, ets, epl, ent, .mk td tk⟩ p) 55) := ⟨_, rfl⟩
      have bi : Below Wr.heap.size Wr Wi := by rw [hWi]; exact (Below.refl _ _).alloc (Nat.le_refl _) _
      have xi : Box Wi Wr.heap.size 55 (Em.cs ⟨eal, ets, epl, ent, .mk td tk⟩ p) := by rw [hWi]; exact Box.new _ _ _
      rw [show Obj.cells #[Value.string eal.1, .slice p.ta ets.length p.tc, .bool epl, .bool ent, .int .i64 td.op, .int .i64 td.k, .int .i64 td.n, .string td.s.1, .string td.al.1, .string td.fd.1, .slice p.ka tk.length p.kc] 55 = Obj.cells (Em.cs ⟨eal, ets, epl, ent, .mk td tk⟩ p) 55 from rfl, ← hWi]
      clear hWi hd0 hd1 hd2 hd3 hd4 hd5 hd6 hd7 hd8 hd9 hd10 h0 h1 h2 h3
      have bEi : Below W1.heap.size W1 Wi := hB.trans (bi.mono hB.size)
      have hini := hide ((unhide hin).on bi)
      clear hin
      obtain ⟨d0', d1, d2, d3, d4, d5, d6, d7, d8, d9, d10⟩ := xi.eleven
      go_upto_if 23 with fail
      go_cut [3] (fun v wx => v = .string (X ++ sepT i) ∧ wx = Wi)
      case first =>
        cases i with
        | zero =>
          go_wp2_with fail
          go_meet
          case rel => exact ⟨by rw [show sepT 0 = ⟨#[]⟩ from rfl, bytes_nil], rfl⟩
        | succ k =>
          have e7 : (0 : Int) < ((k + 1 : Nat) : Int) := by omega
          go_wp2_with fail
          go_meet
          case rel => exact ⟨by rw [show sepT (k + 1) = csB from rfl], rfl⟩
      case rest =>
      obtain ⟨rfl, ew⟩ := hcut
      replace ew := ew.symm
      subst ew
      have hs1 : (sepT i).size ≤ 2 := by unfold sepT; split <;> decide
      obtain ⟨X1, eX1⟩ : ∃ Y, Y = X ++ sepT i := ⟨_, rfl⟩
      rw [← eX1] at htk ⊢
      have hX1 : X1.size ≤ 61516 := by rw [eX1, ByteArray.size_append]; omega
      clear eX1 hX hs1
      go_upto_if 27 with fail
      go_cut [3] (fun v wx => v = .string (X1 ++ notT ⟨eal, ets, epl, ent, .mk td tk⟩) ∧ wx = Wi)
      case first =>
        cases ent
        · go_wp2_with fail
          go_meet
          case rel => exact ⟨by rw [show notT ⟨eal, ets, epl, false, .mk td tk⟩ = ⟨#[]⟩ from rfl, bytes_nil], rfl⟩
        · go_wp2_with fail
          go_meet
          case rel => exact ⟨rfl, rfl⟩
      case rest =>
      obtain ⟨rfl, ew⟩ := hcut
      replace ew := ew.symm
      subst ew
      have hs1 : (notT ⟨eal, ets, epl, ent, .mk td tk⟩).size ≤ 1 := by unfold notT; split <;> decide
      obtain ⟨X2, eX2⟩ : ∃ Y, Y = X1 ++ notT ⟨eal, ets, epl, ent, .mk td tk⟩ := ⟨_, rfl⟩
      rw [← eX2] at htk ⊢
      have hX2 : X2.size ≤ 61517 := by rw [eX2, ByteArray.size_append]; omega
      clear eX2 hX1 hs1
      simp only at htk ha8
      have z1 : (X2 ++ eal.1).size = X2.size + eal.1.size := ByteArray.size_append
      have z2 : ((X2 ++ eal.1) ++ coB).size ≤ 61526 := by rw [ByteArray.size_append, z1]; show _ + 1 ≤ _; omega
      have hG := unhide hgood
      have h13 := hG.2.1
      have h8 := hide hG.2.2
      have hG1 := hide hG.1
      simp only at h13
      clear hG hgood
      have hl3 : (ets.length : Int) ≤ 3 := by omega
      go_wp2_with fail
      obtain ⟨Y, eY⟩ : ∃ Y, Y = (X2 ++ eal.1) ++ coB := ⟨_, rfl⟩
      rw [show (X2 ++ eal.1) ++ (⟨#[58]⟩ : ByteArray) = Y from eY.symm]
      rw [← eY] at htk z2
      clear eY z1
      go_loop [3, 6] (fun vt vk => ∃ k : Nat, k ≤ ets.length ∧ vk = .int .i64 k ∧ vt = .string (Y ++ joinB (ets.take k))) (fun _ vk => ets.length - (intOf vk).toNat)
      case atStart => exact ⟨0, Nat.zero_le _, rfl, by rw [List.take_zero, joinB_zero, bytes_nil]⟩
      case round =>
        obtain ⟨k, hk, rfl, rfl⟩ := hrel
        have hj : (joinB (ets.take k)).size ≤ 100 := by
          show ((Lib.join ((ets.take k).map fun t => t.1.data.toList) barB.data.toList).toArray).size ≤ 100
          rw [List.size_toArray]
          exact join_len (ets.take k) (by simp; omega) (fun t ht => unhide h8 t (List.mem_of_mem_take ht))
        by_cases hkt : k < ets.length
        · obtain ⟨t, ht⟩ : ∃ t, ets[k]? = some t := ⟨_, List.getElem?_eq_getElem hkt⟩
          have ht8 := unhide h8 t (List.mem_of_getElem? ht)
          have hjs := hide (show Y ++ joinB (ets.take (k + 1)) = (if k = 0 then Y ++ joinB (ets.take k) else (Y ++ joinB (ets.take k)) ++ barB) ++ t.1 by
            have e1 : ets.take (k + 1) = ets.take k ++ [t] := by rw [List.take_succ_eq_append_getElem hkt]; simp [List.getElem?_eq_getElem hkt] at ht; rw [ht]
            rw [e1, joinB_snoc, List.length_take, Nat.min_eq_left hk]
            split <;> simp only [bytes_assoc])
          rcases (unhide hini).1.2 with h | ⟨b4, off4, ea4, hb4, hc4⟩
          · exfalso; replace h : ets = [] := h; rw [h] at hkt; simp at hkt
          have hct := hc4 k t ht
          replace ea4 : p.ta = some ⟨b4, off4, none⟩ := ea4
          clear hc4 ht
          rw [ea4] at d1
          have hk1 : (k : Int) < ets.length := by omega
          have hk2 : (0 : Int) ≤ k := by omega
          have hZ : (Y ++ joinB (ets.take k)).size ≤ 61626 := by rw [ByteArray.size_append]; omega
          generalize Y ++ joinB (ets.take k) = Z at hjs hZ ⊢
          have z3 : (Z ++ (⟨#[124]⟩ : ByteArray)).size = Z.size + 1 := by rw [ByteArray.size_append]; rfl
          by_cases k0 : k = 0
          · subst k0
            rw [if_pos rfl] at hjs
            rw [Nat.add_zero] at hct
            go_wp2_with fail
            exact ⟨⟨0 + 1, by omega, by go_num, by rw [unhide hjs]⟩, by simp [intOf]; omega⟩
          · rw [if_neg k0] at hjs
            have e7 : (0 : Int) < (k : Int) := by omega
            go_wp2_with fail
            exact ⟨⟨k + 1, by omega, by go_num, by rw [unhide hjs]⟩, by simp [intOf]; omega⟩
        · obtain rfl : k = ets.length := by omega
          have hn' : ¬ (ets.length : Int) < ets.length := by omega
          rw [List.take_length] at hj ⊢
          have hZ : (Y ++ joinB ets).size ≤ 61626 := by rw [ByteArray.size_append]; omega
          generalize Y ++ joinB ets = Z at htk hZ ⊢
          go_upto_if 54 with fail
          go_cut [3] (fun v wx => v = .string (Z ++ plT ⟨eal, ets, epl, ent, .mk td tk⟩) ∧ wx = Wi)
          case first =>
            cases epl
            · go_wp2_with fail
              go_meet
              case rel => exact ⟨by rw [show plT ⟨eal, ets, false, ent, .mk td tk⟩ = ⟨#[]⟩ from rfl, bytes_nil], rfl⟩
            · go_wp2_with fail
              go_meet
              case rel => exact ⟨rfl, rfl⟩
          case rest =>
          obtain ⟨rfl, ew⟩ := hcut
          replace ew := ew.symm
          subst ew
          have hs1 : (plT ⟨eal, ets, epl, ent, .mk td tk⟩).size ≤ 1 := by unfold plT; split <;> decide
          obtain ⟨X4, eX4⟩ : ∃ Y, Y = Z ++ plT ⟨eal, ets, epl, ent, .mk td tk⟩ := ⟨_, rfl⟩
          rw [← eX4] at htk ⊢
          have hX4 : X4.size ≤ 61627 := by rw [eX4, ByteArray.size_append]; omega
          clear eX4 hZ hs1
          by_cases o0 : td.op = 0
          · have e0 : (td.op != 0) = false := by simp [o0]
            have HK := hide (show rowT (es.take (i + 1)) = X4 by
              rw [unhide htk]
              have : askP (Tree.mk td tk) = [] := by unfold askP; rw [if_pos o0]
              rw [this, txtB_nil, bytes_nil])
            clear o0 hask htk
            go_wp2_with fail
            exact ⟨⟨i + 1, by omega, by go_num, by rw [unhide HK], bEi⟩, by simp [intOf]; omega⟩
          · have e0 : (td.op != 0) = true := by simp [o0]
            have hSnd : Snd (Tree.mk td tk) := (unhide hG1).resolve_left o0
            have hap : askP (Tree.mk td tk) = [[obB], condP (Tree.mk td tk), [cbB]].flatten := by unfold askP; rw [if_neg o0]
            have hcl : (flatB (condP (Tree.mk td tk))).length ≤ 12152 := by
              rw [hap, flat_len] at hask
              simp only [List.map_cons, List.map_nil, List.sum_cons, List.sum_nil] at hask
              omega
            have cX := hide (show_c (.mk td tk) hSnd p.ka p.kc Wi (unhide hini).2 (Nat.le_trans hcl (by decide)))
            have hu : (txtB (condP (Tree.mk td tk))).size ≤ 12152 := by rw [txtB_size]; exact hcl
            have HK := hide (show rowT (es.take (i + 1)) = ((X4 ++ obB) ++ txtB (condP (Tree.mk td tk))) ++ cbB by
              rw [unhide htk]
              rw [hap, List.flatten_cons, txtB_append, List.flatten_cons, txtB_append, List.flatten_cons, List.flatten_nil, List.append_nil, txtB_one, txtB_one]
              simp only [bytes_assoc])
            generalize txtB (condP (Tree.mk td tk)) = u at cX hu HK
            have z5 : (X4 ++ obB).size = X4.size + 1 := by rw [ByteArray.size_append]; rfl
            have z6 : ((X4 ++ obB) ++ u).size = X4.size + 1 + u.size := by rw [ByteArray.size_append, z5]
            clear o0 hask htk hap hcl hSnd
            go_wp2_with fail
            refine (unhide cX).mono ?_
            rintro r w7 ⟨rfl, hb7⟩
            go_wp2_with fail
            exact ⟨⟨i + 1, by omega, by go_num, by rw [unhide HK], bEi.trans (hb7.mono bEi.size)⟩, by simp [intOf]; omega⟩
    · obtain rfl : i = es.length := by omega
      rw [List.take_length] at hX ⊢
      generalize rowT es = X at HY hX ⊢
      have hn' : ¬ (es.length : Int) < es.length := by omega
      have hd := decB_size wi (by omega) (by omega)
      rw [decB_itoa] at hd
      have cD := hide (dec13_c wi (by omega) (by omega) Wr)
      rw [decB_itoa] at cD
      obtain ⟨D, eD⟩ : ∃ D, D = itoaB wi := ⟨_, rfl⟩
      replace HY := hide (show pattB ⟨es, wi, nm, any⟩ = ((X ++ wiB) ++ D) ++ ((if !(nm.1.toList == []) then byB ++ nm.1 else ⟨#[]⟩) ++ (if any then anyB else ⟨#[]⟩)) by rw [eD]; exact unhide HY)
      rw [← eD] at cD hd
      clear eD
      have z1 : (X ++ wiB).size = X.size + 9 := by rw [ByteArray.size_append]; rfl
      go_wp2_with fail
      refine (unhide cD).mono ?_
      rintro r w2 ⟨rfl, hb2⟩
      clear cD h0 h1 h2 h3
      have x2 := xr.on hb2 xr.lt
      have b2 := br.trans (hb2.mono br.size)
      obtain ⟨h0, h1, h2, h3⟩ := x2.four
      go_upto_if 76 with fail
      obtain ⟨V, eV⟩ : ∃ V, V = (X ++ wiB) ++ D := ⟨_, rfl⟩
      rw [show (X ++ (⟨#[41, 32, 87, 73, 84, 72, 73, 78, 32]⟩ : ByteArray)) ++ D = V from eV.symm]
      have hV : V.size ≤ 61544 := by rw [eV, ByteArray.size_append, z1]; omega
      rw [← eV] at HY
      clear eV z1
      go_cut [3] (fun v wx => v = .string (V ++ (if !(nm.1.toList == []) then byB ++ nm.1 else ⟨#[]⟩)) ∧ wx = w2)
      case first =>
        have z2 : (V ++ byB).size = V.size + 4 := by rw [ByteArray.size_append]; rfl
        cases hne : (nm.1.toList == [])
        · have K := hide hne
          have hne2 : nm.1.toList.isEmpty = false := by rw [← hne]; cases nm.1.toList <;> rfl
          rw [hne2, Bool.not_false]
          go_wp2_with fail
          go_meet
          case rel => exact ⟨by rw [if_pos (by rw [unhide K]; rfl), bytes_assoc], rfl⟩
        · have K := hide hne
          have hne2 : nm.1.toList.isEmpty = true := by rw [← hne]; cases nm.1.toList <;> rfl
          rw [hne2, Bool.not_true]
          go_wp2_with fail
          go_meet
          case rel => exact ⟨by rw [if_neg (by rw [unhide K]; decide), bytes_nil], rfl⟩
      case rest =>
      obtain ⟨rfl, ew⟩ := hcut
      replace ew := ew.symm
      subst ew
      have hb4 : (if !(nm.1.toList == []) then byB ++ nm.1 else (⟨#[]⟩ : ByteArray)).size ≤ 12 := by
        split
        · rw [ByteArray.size_append]; show 4 + _ ≤ _; omega
        · exact Nat.zero_le _
      generalize (if !(nm.1.toList == []) then byB ++ nm.1 else (⟨#[]⟩ : ByteArray)) = B at HY hb4 ⊢
      have z3 : (V ++ B).size ≤ 61556 := by rw [ByteArray.size_append]; omega
      rw [← bytes_assoc] at HY
      generalize V ++ B = U at HY z3 ⊢
      cases any
      · have HZ := hide (show pattB ⟨es, wi, nm, false⟩ = U by rw [unhide HY]; exact bytes_nil U)
        go_wp2_with fail
        go_ret
        exact ⟨by rw [unhide HZ]; rfl, b2⟩
      · have HZ := hide (show pattB ⟨es, wi, nm, true⟩ = U ++ anyB by rw [unhide HY]; rfl)
        go_wp2_with fail
        go_ret
        exact ⟨by rw [unhide HZ]; rfl, b2⟩

end Go.Proofs.YtmhpakhnclkenaaGreatDoor

namespace Go.Proofs.YtmhpakhnclkenaaGreatDoor
open Go.RowKit

attribute [local go_sem] Oper.semAt_some

/-- Two rows alike, one by one. -/
def allZ {α β : Type} (f : α → β → Bool) : List α → List β → Bool
  | [], [] => true
  | x :: a, y :: b => f x y && allZ f a b
  | _, _ => false
theorem allZ_len {α β : Type} {f : α → β → Bool} : ∀ {a : List α} {b : List β}, allZ f a b = true → a.length = b.length
  | [], [], _ => rfl
  | x :: a, y :: b, h => by simp only [allZ, Bool.and_eq_true] at h; simp [allZ_len h.2]
theorem allZ_take {α β : Type} {f : α → β → Bool} : ∀ {a : List α} {b : List β}, allZ f a b = true → ∀ k, allZ f (a.take k) (b.take k) = true
  | [], [], _, k => by simp [allZ]
  | x :: a, y :: b, h, 0 => by simp [allZ]
  | x :: a, y :: b, h, k + 1 => by
    simp only [allZ, Bool.and_eq_true] at h
    simp [allZ, h.1, allZ_take h.2 k]
theorem allZ_no {α β : Type} {f : α → β → Bool} {a : List α} {b : List β} (k : Nat) (h : allZ f (a.take k) (b.take k) = false) : allZ f a b = false := by
  cases hq : allZ f a b
  · rfl
  · rw [allZ_take hq k] at h; cases h
theorem allZ_snoc {α β : Type} {f : α → β → Bool} : ∀ {a : List α} {b : List β} {k : Nat} {x : α} {y : β}, a[k]? = some x → b[k]? = some y → allZ f (a.take (k + 1)) (b.take (k + 1)) = (allZ f (a.take k) (b.take k) && f x y)
  | [], _, k, x, y, h, _ => by simp at h
  | _ :: _, [], k, x, y, _, h => by simp at h
  | x' :: a, y' :: b, 0, x, y, h, h' => by
    simp at h h'
    subst h h'
    simp [allZ]
  | x' :: a, y' :: b, k + 1, x, y, h, h' => by
    simp at h h'
    have := allZ_snoc (f := f) h h'
    simp only [List.take_succ_cons, allZ]
    rw [this, Bool.and_assoc]

def sameTx (a b : List Txt) : Bool := allZ (fun t u => t.1.toList == u.1.toList) a b

theorem Txts.at {n₀ : Nat} {W : World} {a : Option Addr} {ts : List Txt} (k : Txts n₀ W a ts) {j : Nat} {t : Txt} (ht : ts[j]? = some t) : ∃ b off, a = some ⟨b, off, none⟩ ∧ b < n₀ ∧ W.cell? ⟨b, off + j, none⟩ = some (.string t.1) := by
  rcases k.2 with h0 | ⟨b, off, e, hb, hc⟩
  · rw [h0] at ht; simp at ht
  · exact ⟨b, off, e, hb, hc j t ht⟩

set_option maxHeartbeats 2000000 in
theorem refTexts_c (a a' : Option Addr) (cap cap' : Nat) (ts us : List Txt) (w : World) (hT : Txts w.heap.size w a ts) (hU : Txts w.heap.size w a' us) :
    Calls Tryz.prog 63 #[.slice a ts.length cap, .slice a' us.length cap'] w fun r w' => r = .returned (.bool (sameTx ts us)) ∧ Below w.heap.size w w' := by
  have hl1 := hT.1
  have hl2 := hU.1
  by_cases hlen : ts.length = us.length
  · have H1 := hide hT
    have H2 := hide hU
    have HL := hide hlen
    rw [← hlen]
    rw [← hlen] at hl2
    clear hT hU hlen
    go_enter Tryz.func63, Tryz.ntmps63
    go_wp2_with fail
    go_loopw [5] (fun i wr => ∃ k : Nat, k ≤ ts.length ∧ i = .int .i64 k ∧ Below w.heap.size w wr ∧ Hid (sameTx (ts.take k) (us.take k) = true)) (fun i _ => ts.length - (intOf i).toNat)
    case atStart => exact ⟨0, Nat.zero_le _, rfl, Below.refl _ _, hide (by simp [sameTx, allZ])⟩
    case round =>
      obtain ⟨k, hk, rfl, hB, hs⟩ := hrel
      by_cases hlt : k < ts.length
      · have hlt2 : k < us.length := by have := unhide HL; omega
        obtain ⟨t, ht⟩ : ∃ t, ts[k]? = some t := ⟨_, List.getElem?_eq_getElem hlt⟩
        obtain ⟨u, hu⟩ : ∃ u, us[k]? = some u := ⟨_, List.getElem?_eq_getElem hlt2⟩
        obtain ⟨b, off, rfl, hb, hc⟩ := (unhide H1).at ht
        obtain ⟨b', off', rfl, hb', hc'⟩ := (unhide H2).at hu
        have hc1 := (hB.cell (p := ⟨b, off + k, none⟩) hb).trans hc
        have hc2 := (hB.cell (p := ⟨b', off' + k, none⟩) hb').trans hc'
        have htk := hide (show sameTx (ts.take (k + 1)) (us.take (k + 1)) = (t.1.toList == u.1.toList) by
          unfold sameTx; rw [allZ_snoc ht hu]; have := unhide hs; unfold sameTx at this; rw [this]; rfl)
        clear hc hc' ht hu hlt2
        have hk1 : (k : Int) < ts.length := by omega
        have hk2 : (0 : Int) ≤ k := by omega
        generalize t.1 = x at *
        generalize u.1 = y at *
        cases hq : (x.toList == y.toList)
        · rw [hq] at htk
          have hno := hide (show sameTx ts us = false from allZ_no (k + 1) (unhide htk))
          clear htk
          go_wp2_with fail
          go_quiet (fail)
          go_wp2_with fail
          go_ret
          exact ⟨by rw [unhide hno]; rfl, below_dn hB _⟩
        · rw [hq] at htk
          go_wp2_with fail
          go_quiet (fail)
          go_wp2_with fail
          go_roundw
          case rel => exact ⟨k + 1, by omega, by go_num, below_dn hB _, htk⟩
          case measure => simp [intOf]; omega
      · have hy := hide (show sameTx ts us = true by
          have := unhide hs
          rwa [List.take_of_length_le (by omega), List.take_of_length_le (by have := unhide HL; omega)] at this)
        have hk1 : ¬ (k : Int) < ts.length := by omega
        go_wp2_with fail
        go_ret
        exact ⟨by rw [unhide hy]; rfl, hB⟩
  · have hno := hide (show sameTx ts us = false by
      cases hq : sameTx ts us
      · rfl
      · exact absurd (allZ_len hq) hlen)
    have hne : ((ts.length : Int) == us.length) = false := by simp; omega
    clear hT hU
    go_enter Tryz.func63, Tryz.ntmps63
    go_wp2_with fail
    go_ret
    exact ⟨by rw [unhide hno]; rfl, Below.refl _ _⟩

theorem box_nextS (W : World) (o : Obj) (t : TypeId) (cs : Array Value) : Box ((W.alloc o).alloc (.cells cs t)) (W.heap.size + 1) t cs := by
  have h := Box.new (W.alloc o) t cs
  rwa [show (W.alloc o).heap.size = W.heap.size + 1 by simp] at h
def sameE (x y : Em) : Bool := (x.al.1.toList == y.al.1.toList) && (sameTx x.ts y.ts && ((x.pl == y.pl) && ((x.nt == y.nt) && sameT x.t y.t)))

set_option maxHeartbeats 4000000 in
theorem refElem_c (x y : Em) (p q : Pl) (w : World) (hx : EmIn w.heap.size w x p) (hy : EmIn w.heap.size w y q) :
    Calls Tryz.prog 32 #[x.v p, y.v q] w fun r w' => r = .returned (.bool (sameE x y)) ∧ Below w.heap.size w w' := by
  obtain ⟨⟨xo, xb⟩, xts, xpl, xnt, ⟨xd, xk⟩⟩ := x
  obtain ⟨⟨yo, yb⟩, yts, ypl, ynt, ⟨yd, yk⟩⟩ := y
  obtain ⟨pa, pc, pk, pn⟩ := p
  obtain ⟨qa, qc, qk, qn⟩ := q
  obtain ⟨W2, hW2⟩ : ∃ W2, W2 = (w.alloc (.cells #[.string xo, .slice pa xts.length pc, .bool xpl, .bool xnt, .int .i64 xd.op, .int .i64 xd.k, .int .i64 xd.n, .string xd.s.1, .string xd.al.1, .string xd.fd.1, .slice pk xk.length pn] 55)).alloc (.cells #[.string yo, .slice qa yts.length qc, .bool ypl, .bool ynt, .int .i64 yd.op, .int .i64 yd.k, .int .i64 yd.n, .string yd.s.1, .string yd.al.1, .string yd.fd.1, .slice qk yk.length qn] 55) := ⟨_, rfl⟩
  have b2 : Below w.heap.size w W2 := by rw [hW2]; exact ((Below.refl _ _).alloc (Nat.le_refl _) _).alloc (by simp) _
  have x2 : Box W2 w.heap.size 55 #[.string xo, .slice pa xts.length pc, .bool xpl, .bool xnt, .int .i64 xd.op, .int .i64 xd.k, .int .i64 xd.n, .string xd.s.1, .string xd.al.1, .string xd.fd.1, .slice pk xk.length pn] := by rw [hW2]; exact (Box.new _ _ _).alloc _
  have y2 : Box W2 (w.heap.size + 1) 55 #[.string yo, .slice qa yts.length qc, .bool ypl, .bool ynt, .int .i64 yd.op, .int .i64 yd.k, .int .i64 yd.n, .string yd.s.1, .string yd.al.1, .string yd.fd.1, .slice qk yk.length qn] := by rw [hW2]; exact box_nextS _ _ _ _
  have hx2 := hx.on b2
  have hy2 := hy.on b2
  obtain ⟨st, hst⟩ : ∃ st, sameTx xts yts = st := ⟨_, rfl⟩
  have cT := refTexts_c pa qa pc qc xts yts W2 hx2.1 hy2.1
  rw [hst] at cT
  have CT := hide cT
  have X2 := hide x2
  have Y2 := hide y2
  have HX := hide hx2
  have HY := hide hy2
  obtain ⟨R, hR⟩ : ∃ R, R = sameE ⟨⟨xo, xb⟩, xts, xpl, xnt, ⟨xd, xk⟩⟩ ⟨⟨yo, yb⟩, yts, ypl, ynt, ⟨yd, yk⟩⟩ := ⟨_, rfl⟩
  rw [← hR]
  simp only [sameE] at hR
  rw [hst] at hR
  replace hR := hide hR
  obtain ⟨a0, a1, a2, a3, a4, a5, a6, a7, a8, a9, a10⟩ := x2.eleven
  obtain ⟨d0, d1, d2, d3, d4, d5, d6, d7, d8, d9, d10⟩ := y2.eleven
  clear hx hy hx2 hy2 cT hst x2 y2
  go_enter Tryz.func32, Tryz.ntmps32
  go_upto_region 1 with fail
  rw [← hW2]
  clear hW2
  rcases hq : (xo.toList == yo.toList) with _ | _
  · have H := hide (show R = false by rw [unhide hR, hq]; rfl)
    clear hR
    go_wp2_with fail
    go_ret
    exact ⟨by rw [unhide H]; rfl, b2⟩
  go_wp2_with fail
  refine (unhide CT).mono ?_
  rintro r W3 ⟨rfl, b3⟩
  have x3 := (unhide X2).on b3 (unhide X2).lt
  have y3 := (unhide Y2).on b3 (unhide Y2).lt
  have hx3 := (unhide HX).on b3
  have hy3 := (unhide HY).on b3
  have b23 := b2.trans (b3.mono b2.size)
  have cS := refSame_c xd yd pn qn pk qk xk yk W3 hx3.2 hy3.2
  clear a0 a1 a2 a3 a4 a5 a6 a7 a8 a9 a10 d0 d1 d2 d3 d4 d5 d6 d7 d8 d9 d10 CT X2 Y2 HX HY hx3 hy3
  obtain ⟨a0, a1, a2, a3, a4, a5, a6, a7, a8, a9, a10⟩ := x3.eleven
  obtain ⟨d0, d1, d2, d3, d4, d5, d6, d7, d8, d9, d10⟩ := y3.eleven
  clear x3 y3
  cases st
  · have H := hide (show R = false by rw [unhide hR]; simp)
    clear hR cS
    go_wp2_with fail
    go_ret
    exact ⟨by rw [unhide H]; rfl, b23⟩
  rcases hpl : (xpl == ypl) with _ | _
  · have H := hide (show R = false by rw [unhide hR, hpl]; simp)
    clear hR cS
    go_wp2_with fail
    go_ret
    exact ⟨by rw [unhide H]; rfl, b23⟩
  rcases hnt : (xnt == ynt) with _ | _
  · have H := hide (show R = false by rw [unhide hR, hnt]; simp)
    clear hR cS
    go_wp2_with fail
    go_ret
    exact ⟨by rw [unhide H]; rfl, b23⟩
  obtain ⟨z, hz⟩ : ∃ z, sameT (.mk xd xk) (.mk yd yk) = z := ⟨_, rfl⟩
  have H := hide (show R = z by rw [unhide hR, hq, hpl, hnt, hz]; rfl)
  rw [hz] at cS
  have CS := hide cS
  clear hR cS hz
  go_wp2_with fail
  refine (unhide CS).mono ?_
  rintro r W4 ⟨rfl, b4⟩
  go_wp2_with fail
  go_ret
  exact ⟨by rw [unhide H]; rfl, b23.trans (b4.mono b23.size)⟩

def samePt (p q : Pt) : Bool := (p.es.length == q.es.length) && ((p.wi == q.wi) && ((p.nm.1.toList == q.nm.1.toList) && ((p.any == q.any) && allZ sameE p.es q.es)))

set_option maxRecDepth 100000 in
set_option maxHeartbeats 8000000 in
theorem refPatt_c (p q : Pt) (a a' : Option Addr) (c c' : Nat) (w : World) (hE : Ems w.heap.size w a p.es) (hF : Ems w.heap.size w a' q.es) :
    Calls Tryz.prog 14 #[p.v a c, q.v a' c'] w fun r w' => r = .returned (.bool (samePt p q)) ∧ Below w.heap.size w w' := by
  have hmx : Tryz.prog.follows .mixedOrders = true := by kernel_rfl
  obtain ⟨es, wi, ⟨no, nb⟩, an⟩ := p
  obtain ⟨fs, vi, ⟨mo, mb⟩, am⟩ := q
  have hl1 := hE.1
  have hl2 := hF.1
  simp only at hl1 hl2
  obtain ⟨W2, hW2⟩ : ∃ W2, W2 = (w.alloc (.cells #[.slice a es.length c, .int .i64 wi, .string no, .bool an] 36)).alloc (.cells #[.slice a' fs.length c', .int .i64 vi, .string mo, .bool am] 36) := ⟨_, rfl⟩
  have b2 : Below w.heap.size w W2 := by rw [hW2]; exact ((Below.refl _ _).alloc (Nat.le_refl _) _).alloc (by simp) _
  have x2 : Box W2 w.heap.size 36 #[.slice a es.length c, .int .i64 wi, .string no, .bool an] := by rw [hW2]; exact (Box.new _ _ _).alloc _
  have y2 : Box W2 (w.heap.size + 1) 36 #[.slice a' fs.length c', .int .i64 vi, .string mo, .bool am] := by rw [hW2]; exact box_nextS _ _ _ _
  have HE := hide (hE.on b2)
  have HF := hide (hF.on b2)
  obtain ⟨R, hR⟩ : ∃ R, R = samePt ⟨es, wi, ⟨no, nb⟩, an⟩ ⟨fs, vi, ⟨mo, mb⟩, am⟩ := ⟨_, rfl⟩
  rw [← hR]
  simp only [samePt] at hR
  replace hR := hide hR
  obtain ⟨a0, a1, a2, a3⟩ := x2.four
  obtain ⟨d0, d1, d2, d3⟩ := y2.four
  have X2 := hide x2
  have Y2 := hide y2
  clear hE hF x2 y2
  go_enter Tryz.func14, Tryz.ntmps14
  go_upto_region 1 with fail
  rw [← hW2]
  clear hW2
  by_cases hlen : es.length = fs.length
  case neg =>
    have H := hide (show R = false by rw [unhide hR, show (es.length == fs.length) = false by simpa using hlen]; rfl)
    have hne : ¬ (es.length : Int) = fs.length := by omega
    clear hR hlen
    go_wp2_with fail
    go_ret
    exact ⟨by rw [unhide H]; rfl, b2⟩
  rw [← hlen] at d0 Y2
  have HL := hide hlen.symm
  rw [show (es.length == fs.length) = true by simpa using hlen] at hR
  clear hlen hl2
  by_cases hwi : wi = vi
  case neg =>
    have H := hide (show R = false by rw [unhide hR, show (wi == vi) = false by simpa using hwi]; rfl)
    clear hR
    go_wp2_with fail
    go_ret
    exact ⟨by rw [unhide H]; rfl, b2⟩
  rw [show (wi == vi) = true by simpa using hwi] at hR
  by_cases hnm : no.toList = mo.toList
  case neg =>
    have H := hide (show R = false by rw [unhide hR, show (no.toList == mo.toList) = false by simpa using hnm]; rfl)
    clear hR
    go_wp2_with fail
    go_ret
    exact ⟨by rw [unhide H]; rfl, b2⟩
  rw [show (no.toList == mo.toList) = true by simpa using hnm] at hR
  rcases han : (an == am) with _ | _
  · have H := hide (show R = false by rw [unhide hR, han]; rfl)
    clear hR
    go_wp2_with fail
    go_ret
    exact ⟨by rw [unhide H]; rfl, b2⟩
  have HR := hide (show R = allZ sameE es fs by rw [unhide hR, han]; simp)
  clear hR
  go_wp2_with fail
  clear hwi hnm han a0 a1 a2 a3 d0 d1 d2 d3
  go_loopw [5] (fun i wr => ∃ k : Nat, k ≤ es.length ∧ i = .int .i64 k ∧ Below W2.heap.size W2 wr ∧ Hid (allZ sameE (es.take k) (fs.take k) = true)) (fun i _ => es.length - (intOf i).toNat)
  case atStart => exact ⟨0, Nat.zero_le _, rfl, Below.refl _ _, hide (by simp [allZ])⟩
  case round =>
    obtain ⟨k, hk, rfl, hB, hs⟩ := hrel
    have xr := ((unhide X2).on hB (unhide X2).lt).at 0 rfl
    have yr := ((unhide Y2).on hB (unhide Y2).lt).at 0 rfl
    by_cases hlt : k < es.length
    · have hlt2 : k < fs.length := by have := unhide HL; omega
      obtain ⟨x, hx⟩ : ∃ x, es[k]? = some x := ⟨_, List.getElem?_eq_getElem hlt⟩
      obtain ⟨y, hy⟩ : ∃ y, fs[k]? = some y := ⟨_, List.getElem?_eq_getElem hlt2⟩
      obtain ⟨b, off, p, rfl, hb, hcs, hin⟩ := ((unhide HE).on hB).at hx
      obtain ⟨b', off', q, rfl, hb', hcs', hin'⟩ := ((unhide HF).on hB).at hy
      obtain ⟨z, hz⟩ : ∃ z, sameE x y = z := ⟨_, rfl⟩
      have htk := hide (show allZ sameE (es.take (k + 1)) (fs.take (k + 1)) = z by rw [allZ_snoc hx hy, unhide hs, ← hz]; rfl)
      have hd0 := cell_regrown (hcs 0 _ rfl)
      have hd1 := cell_regrown (hcs 1 _ rfl)
      have hd2 := cell_regrown (hcs 2 _ rfl)
      have hd3 := cell_regrown (hcs 3 _ rfl)
      have hd4 := cell_regrown (hcs 4 _ rfl)
      have hd5 := cell_regrown (hcs 5 _ rfl)
      have hd6 := cell_regrown (hcs 6 _ rfl)
      have hd7 := cell_regrown (hcs 7 _ rfl)
      have hd8 := cell_regrown (hcs 8 _ rfl)
      have hd9 := cell_regrown (hcs 9 _ rfl)
      have hd10 := cell_regrown (hcs 10 _ rfl)
      have hg0 := cell_regrown (hcs' 0 _ rfl)
      have hg1 := cell_regrown (hcs' 1 _ rfl)
      have hg2 := cell_regrown (hcs' 2 _ rfl)
      have hg3 := cell_regrown (hcs' 3 _ rfl)
      have hg4 := cell_regrown (hcs' 4 _ rfl)
      have hg5 := cell_regrown (hcs' 5 _ rfl)
      have hg6 := cell_regrown (hcs' 6 _ rfl)
      have hg7 := cell_regrown (hcs' 7 _ rfl)
      have hg8 := cell_regrown (hcs' 8 _ rfl)
      have hg9 := cell_regrown (hcs' 9 _ rfl)
      have hg10 := cell_regrown (hcs' 10 _ rfl)
      rw [Nat.add_zero] at hd0 hg0
      have xg := cell_regrown xr
      have yg := cell_regrown yr
      have cV : Hid (∀ (dd : Nat) (oo : Array Obj), Calls Tryz.prog 32 #[x.v p, y.v q] (Sort.grow (redrawn wr dd) oo) fun r W' => r = .returned (.bool z) ∧ Below (Sort.grow (redrawn wr dd) oo).heap.size (Sort.grow (redrawn wr dd) oo) W') := hide fun dd oo => by
        have hbg := below_regrown wr dd oo
        rw [← hz]
        exact refElem_c x y p q _ (hin.on hbg) (hin'.on hbg)
      have hkl : (k : Int) < es.length := by omega
      have hk0 : (0 : Int) ≤ k := by omega
      clear hcs hcs' hin hin' hx hy hz hlt2 hlt
      go_upto_region 6 with fail
      refine wp_region_quiet_below hmx (by kernel_rfl) ?_
      repeat (quiet_step (first | (go_at_call 32; exact Calls.regrown_of (unhide cV _ _))))
      refine wpQuiet_nil ?_
      intro _ hw'
      obtain ⟨⟨dq, osq⟩, hw''⟩ := hw'
      subst hw''
      have hb5 := below_regrown wr dq osq
      generalize Sort.grow (redrawn wr dq) osq = W5 at hb5 ⊢
      clear cV hd0 hd1 hd2 hd3 hd4 hd5 hd6 hd7 hd8 hd9 hd10 hg0 hg1 hg2 hg3 hg4 hg5 hg6 hg7 hg8 hg9 hg10 xg yg
      have bE := hB.trans (hb5.mono hB.size)
      cases z
      · have H := hide (show R = false by rw [unhide HR]; exact allZ_no (k + 1) (unhide htk))
        clear htk
        go_wp2_with fail
        go_ret
        exact ⟨by rw [unhide H]; rfl, b2.trans (bE.mono b2.size)⟩
      · go_wp2_with fail
        go_roundw
        case rel => exact ⟨k + 1, by omega, by go_num, bE, htk⟩
        case measure => simp [intOf]; omega
    · have H := hide (show R = true by
        rw [unhide HR]
        have := unhide hs
        rwa [List.take_of_length_le (by omega), List.take_of_length_le (by have := unhide HL; omega)] at this)
      have hk1 : ¬ (k : Int) < es.length := by omega
      go_wp2_with fail
      go_ret
      exact ⟨by rw [unhide H]; rfl, b2.trans (hB.mono b2.size)⟩
end Go.Proofs.YtmhpakhnclkenaaGreatDoor
