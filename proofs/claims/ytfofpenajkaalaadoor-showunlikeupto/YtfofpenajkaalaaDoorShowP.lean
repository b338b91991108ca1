/-
  What the document's ShowPattern answers: the text that the pieces of a pattern make, where it is as it may be; else the empty text.
-/
import Derived.Test.YtfofpenajkaalaaDoorFaces
namespace Go.Proofs.YtfofpenajkaalaaDoor
open Go.RowKit Go.Shelf

theorem bytes_nil (a : ByteArray) : a ++ ⟨#[]⟩ = a := eq_of_list (by simp)
/-- The text of a pattern's row, its beginning ahead. -/
def rowT (es : List Em) : ByteArray := seqB ++ txtB (rowS es).flatten
/-- What an element adds to it. -/
def sepT (i : Nat) : ByteArray := if 0 < i then csB else ⟨#[]⟩
def notT (e : Em) : ByteArray := if e.nt then exB else ⟨#[]⟩
def plT (e : Em) : ByteArray := if e.pl then plB else ⟨#[]⟩
theorem txtB_flat (a b : List (List ByteArray)) : txtB (a ++ b).flatten = txtB a.flatten ++ txtB b.flatten := by rw [List.flatten_append, txtB_append]
theorem txtB_cons (x : ByteArray) (ps : List ByteArray) : txtB (x :: ps) = x ++ txtB ps := by
  rw [show x :: ps = [x] ++ ps from rfl, txtB_append, txtB_one]
theorem txt_elem (e : Em) : txtB (elemP e) = notT e ++ (e.al.1 ++ (coB ++ (joinB e.ts ++ (plT e ++ txtB (askP e.t))))) := by
  unfold elemP notT plT
  cases e.nt <;> cases e.pl <;> exact eq_of_list (by simp [txtB, flatB])
theorem rowT_snoc (es : List Em) (e : Em) : rowT (es ++ [e]) = (((((rowT es ++ sepT es.length) ++ notT e) ++ e.al.1) ++ coB) ++ joinB e.ts) ++ plT e ++ txtB (askP e.t) := by
  unfold rowT
  rw [rowS_snoc, txtB_flat]
  have e1 : txtB [if decide ((0 : Int) < es.length) then [csB] else [], elemP e].flatten = sepT es.length ++ txtB (elemP e) := by
    rw [List.flatten_cons, List.flatten_cons, List.flatten_nil, List.append_nil, txtB_append]
    unfold sepT
    by_cases h : 0 < es.length
    · rw [if_pos (by simpa using h), if_pos h, txtB_one]
    · rw [if_neg (by simpa using h), if_neg h]; rfl
  rw [e1, txt_elem]
  simp only [bytes_assoc]
theorem joinB_zero : joinB [] = ⟨#[]⟩ := rfl
theorem joinB_snoc (ts : List Txt) (t : Txt) : joinB (ts ++ [t]) = (if ts.length = 0 then joinB ts else joinB ts ++ barB) ++ t.1 := by
  have key : ∀ l : List Txt, l ≠ [] → joinB (l ++ [t]) = joinB l ++ barB ++ t.1 := by
    intro l
    induction l with
    | nil => intro h; exact absurd rfl h
    | cons x l ih =>
      intro _
      cases l with
      | nil => exact eq_of_list (by simp [joinB, Lib.join, List.intercalate])
      | cons y l =>
        have h1 := ih (by simp)
        have h2 : ∀ (z : List Txt), z ≠ [] → joinB (x :: z) = x.1 ++ barB ++ joinB z := by
          intro z hz
          cases z with
          | nil => exact absurd rfl hz
          | cons z zs => exact eq_of_list (by simp [joinB, Lib.join, List.intercalate])
        rw [show x :: y :: l ++ [t] = x :: (y :: l ++ [t]) from rfl, h2 _ (by simp), h1, h2 _ (by simp)]
        simp only [bytes_assoc]
  by_cases h : ts.length = 0
  · rw [if_pos h, List.eq_nil_of_length_eq_zero h]
    exact eq_of_list (by simp [joinB, Lib.join, List.intercalate])
  · rw [if_neg h]; exact key ts (by intro e; rw [e] at h; exact h rfl)
theorem rowT_size (es : List Em) (h5 : es.length ≤ 5) (hl : ∀ e ∈ es, (flatB (elemP e)).length ≤ 12300) : (rowT es).size ≤ 61514 := by
  unfold rowT
  have h1 : (flatB (rowS es).flatten).length ≤ es.length * (12300 + 2) := rowS_bound 12300 es 0 hl
  have h2 : es.length * (12300 + 2) ≤ 5 * (12300 + 2) := Nat.mul_le_mul_right _ h5
  rw [ByteArray.size_append, txtB_size]
  show 4 + _ ≤ _
  omega
theorem patT (q : Pt) : txtB (patP q) = ((rowT q.es ++ wiB) ++ itoaB q.wi) ++ ((if !(q.nm.1.toList == []) then byB ++ q.nm.1 else ⟨#[]⟩) ++ (if q.any then anyB else ⟨#[]⟩)) := by
  unfold patP rowT
  rw [List.flatten_cons, txtB_append, txtB_one, List.flatten_cons, txtB_append, List.flatten_cons, txtB_append, List.flatten_cons, txtB_append, List.flatten_cons, List.flatten_nil, List.append_nil, txtB_cons, txtB_one]
  have e1 : txtB (if !(q.nm.1.toList == []) then [byB, q.nm.1] else []) = (if !(q.nm.1.toList == []) then byB ++ q.nm.1 else ⟨#[]⟩) := by
    split
    · rw [txtB_cons, txtB_one]
    · rfl
  have e2 : txtB (if q.any then [anyB] else []) = (if q.any then anyB else ⟨#[]⟩) := by
    split
    · rw [txtB_one]
    · rfl
  rw [e1, e2]
  simp only [bytes_assoc]

set_option maxRecDepth 100000 in
set_option maxHeartbeats 8000000 in
theorem refShowP_c (q : Pt) (a : Option Addr) (cap : Nat) (hb : ∀ e ∈ q.es, Bnd e.t) (w : World) (hE : Ems w.heap.size w a q.es) :
    Calls Tryd.prog 13 #[q.v a cap] w fun r w' => r = .returned (.string (pattB q)) ∧ Below w.heap.size w w' := by
  obtain ⟨W0, hW0⟩ : ∃ W0, W0 = w.alloc (.cells (q.cs a cap) 29) := ⟨_, rfl⟩
  have b0 : Below w.heap.size w W0 := by rw [hW0]; exact (Below.refl _ _).alloc (Nat.le_refl _) _
  have x0 : Box W0 w.heap.size 29 (q.cs a cap) := by rw [hW0]; exact Box.new _ _ _
  have hlen := hE.1
  obtain ⟨es, wi, nm, any⟩ := q
  obtain ⟨h0, h1, h2, h3⟩ := x0.four
  simp only at hlen h0 h1 h2 h3 hb hE
  have cS := hide (refPat_c ⟨es, wi, nm, any⟩ a cap W0 (hE.on b0))
  obtain ⟨g, hg⟩ : ∃ g, g = patB ⟨es, wi, nm, any⟩ := ⟨_, rfl⟩
  rw [← hg] at cS
  replace hg := hide hg
  replace hE := hide hE
  replace hb := hide hb
  go_enter Tryd.func13, Tryd.ntmps13
  go_upto_region 1 with fail
  rw [show Obj.cells #[Value.slice a es.length cap, .int .i64 wi, .string nm.1, .bool any] 29 = Obj.cells (Pt.cs ⟨es, wi, nm, any⟩ a cap) 29 from rfl, ← hW0]
  clear hW0
  go_wp2_with fail
  refine (unhide cS).mono ?_
  rintro e W1 ⟨rfl, hb1⟩
  have b1 := b0.trans (hb1.mono b0.size)
  have x1 := x0.on hb1 x0.lt
  clear cS h0 h1 h2 h3
  obtain ⟨h0, h1, h2, h3⟩ := x1.four
  cases g
  · have H := hide (pattB_no (unhide hg).symm)
    go_wp2_with fail
    go_ret
    exact ⟨by rw [unhide H]; rfl, b1⟩
  have HY := hide ((pattB_yes (unhide hg).symm).trans (patT _))
  obtain ⟨h5, hw0, hw1, hee, hn8⟩ := patB_parts (unhide hg).symm
  simp only at h5 hw0 hw1 hee hn8
  have hel := hide (fun e he => elem_len (unhide hb e he) (hee e he))
  replace hee := hide hee
  have hE1 := hide ((unhide hE).on b1)
  clear hE
  have hes : (es.length : Int) ≤ 5 := by omega
  go_wp2_with fail
  go_loopw [3, 4] (fun vt vi wr => ∃ i : Nat, i ≤ es.length ∧ vi = .int .i64 i ∧ vt = .string (rowT (es.take i)) ∧ Below W1.heap.size W1 wr) (fun _ vi _ => es.length - (intOf vi).toNat)
  case atStart => exact ⟨0, Nat.zero_le _, rfl, rfl, Below.refl _ _⟩
  case round =>
    obtain ⟨i, hi, rfl, rfl, hB⟩ := hrel
    obtain ⟨Wr, eWr⟩ : ∃ Wr, Wr = wr := ⟨_, rfl⟩
    subst eWr
    clear h0 h1 h2 h3
    have xr := x1.on hB x1.lt
    obtain ⟨h0, h1, h2, h3⟩ := xr.four
    simp only at h0 h1 h2 h3
    have br : Below w.heap.size w Wr := b1.trans (hB.mono b1.size)
    have hX := rowT_size (es.take i) (by simp; omega) (fun e he => unhide hel e (List.mem_of_mem_take he))
    by_cases hlt : i < es.length
    · obtain ⟨e, he⟩ : ∃ e, es[i]? = some e := ⟨_, List.getElem?_eq_getElem hlt⟩
      have hmem := List.mem_of_getElem? he
      have htk : rowT (es.take (i + 1)) = (((((rowT (es.take i) ++ sepT i) ++ notT e) ++ e.al.1) ++ coB) ++ joinB e.ts) ++ plT e ++ txtB (askP e.t) := by
        have e1 : es.take (i + 1) = es.take i ++ [e] := by rw [List.take_succ_eq_append_getElem hlt]; simp [List.getElem?_eq_getElem hlt] at he; rw [he]
        rw [e1, rowT_snoc, List.length_take, Nat.min_eq_left hi]
      replace htk := hide htk
      generalize rowT (es.take i) = X at htk hX ⊢
      obtain ⟨hgood, ha8, hask⟩ := elem_good (unhide hb e hmem) (unhide hee e hmem)
      obtain ⟨b, off, p, ea, hbn, hcs, hin⟩ := ((unhide hE1).on hB).at he
      have hd0 := hcs 0 _ rfl
      have hd1 := hcs 1 _ rfl
      have hd2 := hcs 2 _ rfl
      have hd3 := hcs 3 _ rfl
      have hd4 := hcs 4 _ rfl
      have hd5 := hcs 5 _ rfl
      have hd6 := hcs 6 _ rfl
      have hd7 := hcs 7 _ rfl
      have hd8 := hcs 8 _ rfl
      have hd9 := hcs 9 _ rfl
      have hd10 := hcs 10 _ rfl
      rw [Nat.add_zero] at hd0
      clear hcs he
      subst ea
      have hkl : (i : Int) < es.length := by omega
      have hk0 : (0 : Int) ≤ i := by omega
      replace hin := hide hin
      replace hgood := hide hgood
      obtain ⟨eal, ets, epl, ent, ⟨td, tk⟩⟩ := e
      go_upto_region 8 with fail
      obtain ⟨Wi, hWi⟩ : ∃ Wi, Wi = Wr.alloc (.cells (Em.cs ⟨eal, ets, epl, ent, .mk td tk⟩ p) 42) := ⟨_, rfl⟩
      have bi : Below Wr.heap.size Wr Wi := by rw [hWi]; exact (Below.refl _ _).alloc (Nat.le_refl _) _
      have xi : Box Wi Wr.heap.size 42 (Em.cs ⟨eal, ets, epl, ent, .mk td tk⟩ p) := by rw [hWi]; exact Box.new _ _ _
      rw [show Obj.cells #[Value.string eal.1, .slice p.ta ets.length p.tc, .bool epl, .bool ent, .int .i64 td.op, .int .i64 td.k, .int .i64 td.n, .string td.s.1, .string td.al.1, .string td.fd.1, .slice p.ka tk.length p.kc] 42 = Obj.cells (Em.cs ⟨eal, ets, epl, ent, .mk td tk⟩ p) 42 from rfl, ← hWi]
      clear hWi hd0 hd1 hd2 hd3 hd4 hd5 hd6 hd7 hd8 hd9 hd10 h0 h1 h2 h3
      have bEi : Below W1.heap.size W1 Wi := hB.trans (bi.mono hB.size)
      have hini := hide ((unhide hin).on bi)
      clear hin
      obtain ⟨d0', d1, d2, d3, d4, d5, d6, d7, d8, d9, d10⟩ := xi.eleven
      go_upto_if 23 with fail
      go_cut [3] (fun v wx => v = .string (X ++ sepT i) ∧ wx = Wi)
      case first =>
        cases i with
        | zero =>
          go_wp2_with fail
          go_meet
          case rel => exact ⟨by rw [show sepT 0 = ⟨#[]⟩ from rfl, bytes_nil], rfl⟩
        | succ k =>
          have e7 : (0 : Int) < ((k + 1 : Nat) : Int) := by omega
          go_wp2_with fail
          go_meet
          case rel => exact ⟨by rw [show sepT (k + 1) = csB from rfl], rfl⟩
      case rest =>
      obtain ⟨rfl, ew⟩ := hcut
      replace ew := ew.symm
      subst ew
      have hs1 : (sepT i).size ≤ 2 := by unfold sepT; split <;> decide
      obtain ⟨X1, eX1⟩ : ∃ Y, Y = X ++ sepT i := ⟨_, rfl⟩
      rw [← eX1] at htk ⊢
      have hX1 : X1.size ≤ 61516 := by rw [eX1, ByteArray.size_append]; omega
      clear eX1 hX hs1
      go_upto_if 27 with fail
      go_cut [3] (fun v wx => v = .string (X1 ++ notT ⟨eal, ets, epl, ent, .mk td tk⟩) ∧ wx = Wi)
      case first =>
        cases ent
        · go_wp2_with fail
          go_meet
          case rel => exact ⟨by rw [show notT ⟨eal, ets, epl, false, .mk td tk⟩ = ⟨#[]⟩ from rfl, bytes_nil], rfl⟩
        · go_wp2_with fail
          go_meet
          case rel => exact ⟨rfl, rfl⟩
      case rest =>
      obtain ⟨rfl, ew⟩ := hcut
      replace ew := ew.symm
      subst ew
      have hs1 : (notT ⟨eal, ets, epl, ent, .mk td tk⟩).size ≤ 1 := by unfold notT; split <;> decide
      obtain ⟨X2, eX2⟩ : ∃ Y, Y = X1 ++ notT ⟨eal, ets, epl, ent, .mk td tk⟩ := ⟨_, rfl⟩
      rw [← eX2] at htk ⊢
      have hX2 : X2.size ≤ 61517 := by rw [eX2, ByteArray.size_append]; omega
      clear eX2 hX1 hs1
      simp only at htk ha8
      have z1 : (X2 ++ eal.1).size = X2.size + eal.1.size := ByteArray.size_append
      have z2 : ((X2 ++ eal.1) ++ coB).size ≤ 61526 := by rw [ByteArray.size_append, z1]; show _ + 1 ≤ _; omega
      have hG := unhide hgood
      have h13 := hG.2.1
      have h8 := hide hG.2.2
      have hG1 := hide hG.1
      simp only at h13
      clear hG hgood
      have hl3 : (ets.length : Int) ≤ 3 := by omega
      go_wp2_with fail
      obtain ⟨Y, eY⟩ : ∃ Y, Y = (X2 ++ eal.1) ++ coB := ⟨_, rfl⟩
      rw [show (X2 ++ eal.1) ++ (⟨#[58]⟩ : ByteArray) = Y from eY.symm]
      rw [← eY] at htk z2
      clear eY z1
      go_loop [3, 6] (fun vt vk => ∃ k : Nat, k ≤ ets.length ∧ vk = .int .i64 k ∧ vt = .string (Y ++ joinB (ets.take k))) (fun _ vk => ets.length - (intOf vk).toNat)
      case atStart => exact ⟨0, Nat.zero_le _, rfl, by rw [List.take_zero, joinB_zero, bytes_nil]⟩
      case round =>
        obtain ⟨k, hk, rfl, rfl⟩ := hrel
        have hj : (joinB (ets.take k)).size ≤ 100 := by
          show ((Lib.join ((ets.take k).map fun t => t.1.data.toList) barB.data.toList).toArray).size ≤ 100
          rw [List.size_toArray]
          exact join_len (ets.take k) (by simp; omega) (fun t ht => unhide h8 t (List.mem_of_mem_take ht))
        by_cases hkt : k < ets.length
        · obtain ⟨t, ht⟩ : ∃ t, ets[k]? = some t := ⟨_, List.getElem?_eq_getElem hkt⟩
          have ht8 := unhide h8 t (List.mem_of_getElem? ht)
          have hjs := hide (show Y ++ joinB (ets.take (k + 1)) = (if k = 0 then Y ++ joinB (ets.take k) else (Y ++ joinB (ets.take k)) ++ barB) ++ t.1 by
            have e1 : ets.take (k + 1) = ets.take k ++ [t] := by rw [List.take_succ_eq_append_getElem hkt]; simp [List.getElem?_eq_getElem hkt] at ht; rw [ht]
            rw [e1, joinB_snoc, List.length_take, Nat.min_eq_left hk]
            split <;> simp only [bytes_assoc])
          rcases (unhide hini).1.2 with h | ⟨b4, off4, ea4, hb4, hc4⟩
          · exfalso; replace h : ets = [] := h; rw [h] at hkt; simp at hkt
          have hct := hc4 k t ht
          replace ea4 : p.ta = some ⟨b4, off4, none⟩ := ea4
          clear hc4 ht
          rw [ea4] at d1
          have hk1 : (k : Int) < ets.length := by omega
          have hk2 : (0 : Int) ≤ k := by omega
          have hZ : (Y ++ joinB (ets.take k)).size ≤ 61626 := by rw [ByteArray.size_append]; omega
          generalize Y ++ joinB (ets.take k) = Z at hjs hZ ⊢
          have z3 : (Z ++ (⟨#[124]⟩ : ByteArray)).size = Z.size + 1 := by rw [ByteArray.size_append]; rfl
          by_cases k0 : k = 0
          · subst k0
            rw [if_pos rfl] at hjs
            rw [Nat.add_zero] at hct
            go_wp2_with fail
            exact ⟨⟨0 + 1, by omega, by go_num, by rw [unhide hjs]⟩, by simp [intOf]; omega⟩
          · rw [if_neg k0] at hjs
            have e7 : (0 : Int) < (k : Int) := by omega
            go_wp2_with fail
            exact ⟨⟨k + 1, by omega, by go_num, by rw [unhide hjs]⟩, by simp [intOf]; omega⟩
        · obtain rfl : k = ets.length := by omega
          have hn' : ¬ (ets.length : Int) < ets.length := by omega
          rw [List.take_length] at hj ⊢
          have hZ : (Y ++ joinB ets).size ≤ 61626 := by rw [ByteArray.size_append]; omega
          generalize Y ++ joinB ets = Z at htk hZ ⊢
          go_upto_if 54 with fail
          go_cut [3] (fun v wx => v = .string (Z ++ plT ⟨eal, ets, epl, ent, .mk td tk⟩) ∧ wx = Wi)
          case first =>
            cases epl
            · go_wp2_with fail
              go_meet
              case rel => exact ⟨by rw [show plT ⟨eal, ets, false, ent, .mk td tk⟩ = ⟨#[]⟩ from rfl, bytes_nil], rfl⟩
            · go_wp2_with fail
              go_meet
              case rel => exact ⟨rfl, rfl⟩
          case rest =>
          obtain ⟨rfl, ew⟩ := hcut
          replace ew := ew.symm
          subst ew
          have hs1 : (plT ⟨eal, ets, epl, ent, .mk td tk⟩).size ≤ 1 := by unfold plT; split <;> decide
          obtain ⟨X4, eX4⟩ : ∃ Y, Y = Z ++ plT ⟨eal, ets, epl, ent, .mk td tk⟩ := ⟨_, rfl⟩
          rw [← eX4] at htk ⊢
          have hX4 : X4.size ≤ 61627 := by rw [eX4, ByteArray.size_append]; omega
          clear eX4 hZ hs1
          by_cases o0 : td.op = 0
          · have e0 : (td.op != 0) = false := by simp [o0]
            have HK := hide (show rowT (es.take (i + 1)) = X4 by
              rw [unhide htk]
              have : askP (Tree.mk td tk) = [] := by unfold askP; rw [if_pos o0]
              rw [this, txtB_nil, bytes_nil])
            clear o0 hask htk
            go_wp2_with fail
            exact ⟨⟨i + 1, by omega, by go_num, by rw [unhide HK], bEi⟩, by simp [intOf]; omega⟩
          · have e0 : (td.op != 0) = true := by simp [o0]
            have hSnd : Snd (Tree.mk td tk) := (unhide hG1).resolve_left o0
            have hap : askP (Tree.mk td tk) = [[obB], condP (Tree.mk td tk), [cbB]].flatten := by unfold askP; rw [if_neg o0]
            have hcl : (flatB (condP (Tree.mk td tk))).length ≤ 12152 := by
              rw [hap, flat_len] at hask
              simp only [List.map_cons, List.map_nil, List.sum_cons, List.sum_nil] at hask
              omega
            have cX := hide (show_c (.mk td tk) hSnd p.ka p.kc Wi (unhide hini).2 (Nat.le_trans hcl (by decide)))
            have hu : (txtB (condP (Tree.mk td tk))).size ≤ 12152 := by rw [txtB_size]; exact hcl
            have HK := hide (show rowT (es.take (i + 1)) = ((X4 ++ obB) ++ txtB (condP (Tree.mk td tk))) ++ cbB by
              rw [unhide htk]
              rw [hap, List.flatten_cons, txtB_append, List.flatten_cons, txtB_append, List.flatten_cons, List.flatten_nil, List.append_nil, txtB_one, txtB_one]
              simp only [bytes_assoc])
            generalize txtB (condP (Tree.mk td tk)) = u at cX hu HK
            have z5 : (X4 ++ obB).size = X4.size + 1 := by rw [ByteArray.size_append]; rfl
            have z6 : ((X4 ++ obB) ++ u).size = X4.size + 1 + u.size := by rw [ByteArray.size_append, z5]
            clear o0 hask htk hap hcl hSnd
            go_wp2_with fail
            refine (unhide cX).mono ?_
            rintro r w7 ⟨rfl, hb7⟩
            go_wp2_with fail
            exact ⟨⟨i + 1, by omega, by go_num, by rw [unhide HK], bEi.trans (hb7.mono bEi.size)⟩, by simp [intOf]; omega⟩
    · obtain rfl : i = es.length := by omega
      rw [List.take_length] at hX ⊢
      generalize rowT es = X at HY hX ⊢
      have hn' : ¬ (es.length : Int) < es.length := by omega
      have hd := decB_size wi (by omega) (by omega)
      rw [decB_itoa] at hd
      have cD := hide (dec13_c wi (by omega) (by omega) Wr)
      rw [decB_itoa] at cD
      obtain ⟨D, eD⟩ : ∃ D, D = itoaB wi := ⟨_, rfl⟩
      replace HY := hide (show pattB ⟨es, wi, nm, any⟩ = ((X ++ wiB) ++ D) ++ ((if !(nm.1.toList == []) then byB ++ nm.1 else ⟨#[]⟩) ++ (if any then anyB else ⟨#[]⟩)) by rw [eD]; exact unhide HY)
      rw [← eD] at cD hd
      clear eD
      have z1 : (X ++ wiB).size = X.size + 9 := by rw [ByteArray.size_append]; rfl
      go_wp2_with fail
      refine (unhide cD).mono ?_
      rintro r w2 ⟨rfl, hb2⟩
      clear cD h0 h1 h2 h3
      have x2 := xr.on hb2 xr.lt
      have b2 := br.trans (hb2.mono br.size)
      obtain ⟨h0, h1, h2, h3⟩ := x2.four
      go_upto_if 76 with fail
      obtain ⟨V, eV⟩ : ∃ V, V = (X ++ wiB) ++ D := ⟨_, rfl⟩
      rw [show (X ++ (⟨#[41, 32, 87, 73, 84, 72, 73, 78, 32]⟩ : ByteArray)) ++ D = V from eV.symm]
      have hV : V.size ≤ 61544 := by rw [eV, ByteArray.size_append, z1]; omega
      rw [← eV] at HY
      clear eV z1
      go_cut [3] (fun v wx => v = .string (V ++ (if !(nm.1.toList == []) then byB ++ nm.1 else ⟨#[]⟩)) ∧ wx = w2)
      case first =>
        have z2 : (V ++ byB).size = V.size + 4 := by rw [ByteArray.size_append]; rfl
        cases hne : (nm.1.toList == [])
        · have K := hide hne
          have hne2 : nm.1.toList.isEmpty = false := by rw [← hne]; cases nm.1.toList <;> rfl
          rw [hne2, Bool.not_false]
          go_wp2_with fail
          go_meet
          case rel => exact ⟨by rw [if_pos (by rw [unhide K]; rfl), bytes_assoc], rfl⟩
        · have K := hide hne
          have hne2 : nm.1.toList.isEmpty = true := by rw [← hne]; cases nm.1.toList <;> rfl
          rw [hne2, Bool.not_true]
          go_wp2_with fail
          go_meet
          case rel => exact ⟨by rw [if_neg (by rw [unhide K]; decide), bytes_nil], rfl⟩
      case rest =>
      obtain ⟨rfl, ew⟩ := hcut
      replace ew := ew.symm
      subst ew
      have hb4 : (if !(nm.1.toList == []) then byB ++ nm.1 else (⟨#[]⟩ : ByteArray)).size ≤ 12 := by
        split
        · rw [ByteArray.size_append]; show 4 + _ ≤ _; omega
        · exact Nat.zero_le _
      generalize (if !(nm.1.toList == []) then byB ++ nm.1 else (⟨#[]⟩ : ByteArray)) = B at HY hb4 ⊢
      have z3 : (V ++ B).size ≤ 61556 := by rw [ByteArray.size_append]; omega
      rw [← bytes_assoc] at HY
      generalize V ++ B = U at HY z3 ⊢
      cases any
      · have HZ := hide (show pattB ⟨es, wi, nm, false⟩ = U by rw [unhide HY]; exact bytes_nil U)
        go_wp2_with fail
        go_ret
        exact ⟨by rw [unhide HZ]; rfl, b2⟩
      · have HZ := hide (show pattB ⟨es, wi, nm, true⟩ = U ++ anyB by rw [unhide HY]; rfl)
        go_wp2_with fail
        go_ret
        exact ⟨by rw [unhide HZ]; rfl, b2⟩

end Go.Proofs.YtfofpenajkaalaaDoor
