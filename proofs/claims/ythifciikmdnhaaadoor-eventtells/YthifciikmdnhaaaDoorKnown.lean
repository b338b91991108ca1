/-
  What the head of every law of layer 3 answers: true, in whatever world; nothing that lay is turned.
-/
import Derived.Test.YthifciikmdnhaaaDoorAskGet
namespace Go.Proofs.YthifciikmdnhaaaDoor
open Go.RowKit Go.Shelf

def t0 : Txt := ⟨⟨#[]⟩, show 0 ≤ maxLen by decide⟩
def t1 (c : UInt8) : Txt := ⟨⟨#[c]⟩, show 1 ≤ maxLen by decide⟩
/-- The schema and the event of the head. -/
def tsK : List Ty := [(t1 97, [(t1 120, 1)])]
def vsK : List Vl := [(1, 7, t0)]
def evK : Ev := ⟨t1 97, 3, vsK⟩
theorem place_eq (ns : List Txt) (nm : ByteArray) : placeN ns nm = ns.findIdx? fun x => x.1.data.toList == nm.data.toList := by
  unfold placeN eqT
  simp only [ByteArray.toList_eq]
theorem place_a : placeN (tnames tsK) ⟨#[97]⟩ = some 0 := by rw [place_eq]; decide
theorem place_b : placeN (tnames tsK) ⟨#[98]⟩ = none := by rw [place_eq]; decide
theorem getS_eq (f : ByteArray) (l : List Sl) : getS f l = (l.find? fun x => x.1.1.1.data.toList == f.data.toList).map (·.2) := by
  unfold getS nameS eqT
  simp only [ByteArray.toList_eq]
theorem get_x : gotV (getE tsK evK ⟨#[120]⟩) = .tuple #[.agg #[.int .i64 1, .int .i64 7, .string ⟨#[]⟩], .bool true] := by
  have e : getE tsK evK ⟨#[120]⟩ = some (1, 7, t0) := by
    unfold getE
    rw [show evK.ty.1 = ⟨#[97]⟩ from rfl, place_a]
    simp only [getS_eq]
    decide
  rw [e]; rfl
theorem get_y : gotV (getE tsK evK ⟨#[121]⟩) = .tuple #[zeroV, .bool false] := by
  have e : getE tsK evK ⟨#[121]⟩ = none := by
    unfold getE
    rw [show evK.ty.1 = ⟨#[97]⟩ from rfl, place_a]
    simp only [getS_eq]
    decide
  rw [e]; rfl
theorem isB_eq (k n : Int) (s : ByteArray) : isB k n s = if k = 1 then s.data.toList.isEmpty else if k = 2 then decide (n = 0) && isTextB s else if k = 3 then inB 0 1 n && s.data.toList.isEmpty else false := by
  unfold isB
  simp only [ByteArray.toList_eq]
theorem is_0 : errE (isE tsK evK) = .nilIface := by
  have e : isE tsK evK = 0 := by
    unfold isE
    rw [show evK.ty.1 = ⟨#[97]⟩ from rfl, place_a]
    have hno : anyNo evK.vs = false := by
      simp only [anyNo, evK, vsK, List.any_cons, List.any_nil, noV, isB_eq]
      decide
    simp only [wholeB, hno]
    decide
  rw [e]; rfl
theorem is_13 : errE (isE tsK ⟨t1 98, 0, []⟩) = errV 13 := by
  have e : isE tsK ⟨t1 98, 0, []⟩ = 13 := by
    unfold isE
    rw [show (t1 98).1 = ⟨#[98]⟩ from rfl, place_b]
  rw [e]; rfl
theorem is_10 : errE (isE tsK ⟨t1 97, 0, []⟩) = errV 10 := by
  have e : isE tsK ⟨t1 97, 0, []⟩ = 10 := by
    unfold isE
    rw [show (t1 97).1 = ⟨#[97]⟩ from rfl, place_a]
    decide
  rw [e]; rfl
theorem sameV_self (x : Vl) : sameV x x = true := by simp [sameV]
theorem sameVs_self (vs : List Vl) : sameVs vs vs = true := by
  simp only [sameVs, samesV, decide_true, Bool.true_and, List.all_eq_true]
  rintro ⟨x, y⟩ h
  obtain rfl : x = y := by
    rw [List.mem_iff_getElem] at h
    obtain ⟨i, hi, e⟩ := h
    simp at e
    rw [← e.1, ← e.2]
  exact sameV_self x
theorem sameE_self (x : Ev) : sameE x x = true := by simp [sameE, sameVs_self]
theorem sameE_no : sameE evK ⟨t0, 0, []⟩ = false := by
  have : sameVs evK.vs [] = false := by decide
  simp [sameE, this]

/-- The world in which the head's schema and event lie. -/
def wK (w : World) : World := ((((w.alloc (.cells #[.string ⟨#[120]⟩, .int .i64 1] 43)).alloc (.cells #[.string ⟨#[97]⟩, .slice (some ⟨w.heap.size, 0, none⟩) 1 1] 46)).alloc (.cells #[.slice (some ⟨w.heap.size + 1, 0, none⟩) 1 1] 24)).alloc (.cells #[.int .i64 1, .int .i64 7, .string ⟨#[]⟩] 31)).alloc (.cells #[.string ⟨#[97]⟩, .int .i64 3, .slice (some ⟨w.heap.size + 1 + 1 + 1, 0, none⟩) 1 1] 27)
theorem wK_size (w : World) : (wK w).heap.size = w.heap.size + 5 := by simp [wK]
theorem wK_below (w : World) : Below w.heap.size w (wK w) := (((((Below.refl _ _).alloc (Nat.le_refl _) _).alloc (by simp) _).alloc (by simp; omega) _).alloc (by simp; omega) _).alloc (by simp; omega) _
theorem boxes_K (w : World) : Box (wK w) w.heap.size 43 #[.string ⟨#[120]⟩, .int .i64 1] ∧ Box (wK w) (w.heap.size + 1) 46 #[.string ⟨#[97]⟩, .slice (some ⟨w.heap.size, 0, none⟩) 1 1] ∧ Box (wK w) (w.heap.size + 1 + 1) 24 #[.slice (some ⟨w.heap.size + 1, 0, none⟩) 1 1] ∧ Box (wK w) (w.heap.size + 1 + 1 + 1) 31 #[.int .i64 1, .int .i64 7, .string ⟨#[]⟩] ∧ Box (wK w) (w.heap.size + 1 + 1 + 1 + 1) 27 #[.string ⟨#[97]⟩, .int .i64 3, .slice (some ⟨w.heap.size + 1 + 1 + 1, 0, none⟩) 1 1] := by
  have h0 := Box.new w 43 #[.string ⟨#[120]⟩, .int .i64 1]
  have h1 := Box.new (w.alloc (.cells #[.string ⟨#[120]⟩, .int .i64 1] 43)) 46 #[.string ⟨#[97]⟩, .slice (some ⟨w.heap.size, 0, none⟩) 1 1]
  have h2 := Box.new ((w.alloc (.cells #[.string ⟨#[120]⟩, .int .i64 1] 43)).alloc (.cells #[.string ⟨#[97]⟩, .slice (some ⟨w.heap.size, 0, none⟩) 1 1] 46)) 24 #[.slice (some ⟨w.heap.size + 1, 0, none⟩) 1 1]
  have h3 := Box.new (((w.alloc (.cells #[.string ⟨#[120]⟩, .int .i64 1] 43)).alloc (.cells #[.string ⟨#[97]⟩, .slice (some ⟨w.heap.size, 0, none⟩) 1 1] 46)).alloc (.cells #[.slice (some ⟨w.heap.size + 1, 0, none⟩) 1 1] 24)) 31 #[.int .i64 1, .int .i64 7, .string ⟨#[]⟩]
  have h4 := Box.new ((((w.alloc (.cells #[.string ⟨#[120]⟩, .int .i64 1] 43)).alloc (.cells #[.string ⟨#[97]⟩, .slice (some ⟨w.heap.size, 0, none⟩) 1 1] 46)).alloc (.cells #[.slice (some ⟨w.heap.size + 1, 0, none⟩) 1 1] 24)).alloc (.cells #[.int .i64 1, .int .i64 7, .string ⟨#[]⟩] 31)) 27 #[.string ⟨#[97]⟩, .int .i64 3, .slice (some ⟨w.heap.size + 1 + 1 + 1, 0, none⟩) 1 1]
  simp only [World.size_alloc] at h1 h2 h3 h4
  exact ⟨(((h0.alloc _).alloc _).alloc _).alloc _, ((h1.alloc _).alloc _).alloc _, (h2.alloc _).alloc _, h3.alloc _, h4⟩
theorem typs_K (w : World) : Typs (wK w).heap.size (wK w) (some ⟨w.heap.size + 1, 0, none⟩) tsK := by
  obtain ⟨h0, h1, _⟩ := boxes_K w
  refine .inr ⟨w.heap.size + 1, 0, rfl, h1.lt, fun j hj => ?_⟩
  match j, hj with
  | 0, _ =>
    refine ⟨h1.at 0 rfl, some ⟨w.heap.size, 0, none⟩, 1, h1.at 1 rfl, .inr ⟨w.heap.size, 0, rfl, h0.lt, fun j hj => ?_⟩, by decide⟩
    match j, hj with
    | 0, _ => exact ⟨h0.at 0 rfl, h0.at 1 rfl⟩
theorem vals_K (w : World) : Vals (wK w).heap.size (wK w) (some ⟨w.heap.size + 1 + 1 + 1, 0, none⟩) vsK := by
  obtain ⟨_, _, _, h3, _⟩ := boxes_K w
  refine .inr ⟨w.heap.size + 1 + 1 + 1, 0, rfl, h3.lt, fun j hj => ?_⟩
  match j, hj with
  | 0, _ => exact ⟨h3.at 0 rfl, h3.at 1 rfl, h3.at 2 rfl⟩

set_option maxHeartbeats 2000000 in
theorem known_c (w : World) : Calls Tryd.prog 4 #[] w fun e w' => e = .returned (.bool true) ∧ Below w.heap.size w w' := by
  have b0 := wK_below w
  have hk5 : ∀ k, (ty tsK k).2.length ≤ 5 := fun k => by
    match k with
    | 0 => decide
    | k + 1 => simp [ty, tsK, show (default : Ty).2 = [] from rfl]
  obtain ⟨_, _, x2, _, x4⟩ := boxes_K w
  have hs : ∀ W, Below (wK w).heap.size (wK w) W → Typs W.heap.size W (some ⟨w.heap.size + 1, 0, none⟩) tsK ∧ Vals W.heap.size W (some ⟨w.heap.size + 1 + 1 + 1, 0, none⟩) vsK ∧ W.cell? ⟨w.heap.size + 1 + 1, 0, none⟩ = some (.slice (some ⟨w.heap.size + 1, 0, none⟩) 1 1) ∧ (W.cell? ⟨w.heap.size + 1 + 1 + 1 + 1, 0, none⟩ = some (.string ⟨#[97]⟩) ∧ W.cell? ⟨w.heap.size + 1 + 1 + 1 + 1, 1, none⟩ = some (.int .i64 3) ∧ W.cell? ⟨w.heap.size + 1 + 1 + 1 + 1, 2, none⟩ = some (.slice (some ⟨w.heap.size + 1 + 1 + 1, 0, none⟩) 1 1)) := fun W hb =>
    ⟨(typs_K w).on hb, (vals_K w).on hb, (x2.on hb x2.lt).one.1, (x4.on hb x4.lt).three⟩
  clear x2 x4
  have hs := hide hs
  go_enter Tryd.func4, Tryd.ntmps4
  go_wp2_with fail
  refine (get_c _ _ 1 1 tsK evK ⟨#[120]⟩ (by decide) hk5 (by decide) (wK w) (typs_K w) (vals_K w)).mono ?_
  rintro e w1 ⟨rfl, hb1⟩
  rw [get_x]
  have xv := Box.new w1 31 #[.int .i64 1, .int .i64 7, .string ⟨#[]⟩]
  have k1 := hb1.alloc hb1.size (.cells #[.int .i64 1, .int .i64 7, .string ⟨#[]⟩] 31)
  obtain ⟨hT1, hV1, hc1, hd1, hd2, hd3⟩ := unhide hs _ k1
  go_wp2_with fail
  refine (get_c _ _ 1 1 tsK evK ⟨#[121]⟩ (by decide) hk5 (by decide) _ hT1 hV1).mono ?_
  rintro e w2 ⟨rfl, hb2⟩
  rw [get_y]
  have xv2 := (xv.on hb2 xv.lt).alloc (.cells #[.int .i64 0, .int .i64 0, .string ⟨#[]⟩] 31)
  have k2 := (k1.trans (hb2.mono k1.size)).alloc (k1.trans (hb2.mono k1.size)).size (.cells #[.int .i64 0, .int .i64 0, .string ⟨#[]⟩] 31)
  clear hc1 hd1 hd2 hd3
  obtain ⟨hT2, hV2, hc1, hd1, hd2, hd3⟩ := unhide hs _ k2
  go_wp2_with fail
  refine (copy_c ⟨#[97]⟩ 3 _ 1 vsK (by decide) _ hV2).mono ?_
  rintro e w3 ⟨a3, c3, rfl, ho3, hb3⟩
  have hV3 : Vals w3.heap.size w3 a3 vsK := by
    obtain ⟨a', c', e', hv, _⟩ := vals_of_owns ho3
    cases e'; exact hv
  clear ho3
  simp only [show vsK.length = 1 from rfl]
  have bc : Below w3.heap.size w3 (w3.alloc (.cells #[.string ⟨#[97]⟩, .int .i64 3, .slice a3 1 c3] 27)) := (Below.refl _ _).alloc (Nat.le_refl _) _
  have xc := Box.new w3 27 #[.string ⟨#[97]⟩, .int .i64 3, .slice a3 1 c3]
  have hV4 := hV3.on bc
  have xv4 := (xv2.on hb3 xv2.lt).alloc (.cells #[.string ⟨#[97]⟩, .int .i64 3, .slice a3 1 c3] 27)
  have k3 := (k2.trans (hb3.mono k2.size))
  have k4 := k3.trans (bc.mono k3.size)
  clear hc1 hd1 hd2 hd3 hb2 hV3 hT1 hV1 hT2 hV2 xv xv2
  obtain ⟨hT4, hV4', hc1, hd1, hd2, hd3⟩ := unhide hs _ k4
  go_wp2_with fail
  refine (is_c _ _ 1 1 tsK evK (by decide) hk5 (by decide) _ hT4 hV4').mono ?_
  rintro e w5 ⟨rfl, hb5⟩
  rw [is_0]
  have k5 := k4.trans (hb5.mono k4.size)
  clear hc1 hd1 hd2 hd3
  obtain ⟨hT5, hV5, hc1, hd1, hd2, hd3⟩ := unhide hs _ k5
  go_wp2_with fail
  refine (is_c _ none 1 0 tsK ⟨t1 98, 0, []⟩ (by decide) hk5 (by decide) _ hT5 (.inl rfl)).mono ?_
  rintro e w6 ⟨rfl, hb6⟩
  rw [is_13]
  have k6 := k5.trans (hb6.mono k5.size)
  clear hc1 hd1 hd2 hd3
  obtain ⟨hT6, hV6, hc1, hd1, hd2, hd3⟩ := unhide hs _ k6
  go_wp2_with fail
  refine (errIs_c 13 13 _).mono ?_
  rintro e w6' ⟨rfl, rfl⟩
  go_wp2_with fail
  refine (is_c _ none 1 0 tsK ⟨t1 97, 0, []⟩ (by decide) hk5 (by decide) _ hT6 (.inl rfl)).mono ?_
  rintro e w7 ⟨rfl, hb7⟩
  rw [is_10]
  have k7 := k6.trans (hb7.mono k6.size)
  clear hc1 hd1 hd2 hd3
  obtain ⟨hT7, hV7, hc1, hd1, hd2, hd3⟩ := unhide hs _ k7
  go_wp2_with fail
  refine (errIs_c 10 10 _).mono ?_
  rintro e w7' ⟨rfl, rfl⟩
  have q7 := (hb5.trans (hb6.mono hb5.size)).trans (hb7.mono (hb5.trans (hb6.mono hb5.size)).size)
  have xc7 := xc.on q7 xc.lt
  have xv7 := xv4.on q7 xv4.lt
  have hVc := hV4.on q7
  obtain ⟨hm0, hm1, hm2⟩ := xc7.three
  obtain ⟨hn0, hn1, hn2⟩ := xv7.three
  go_wp2_with fail
  refine (sameE_c evK evK _ _ c3 1 (by decide) (by decide) _ hVc hV7).mono ?_
  rintro e w8 ⟨rfl, hb8⟩
  rw [sameE_self]
  have k8 := k7.trans (hb8.mono k7.size)
  have xc8 := xc7.on hb8 xc7.lt
  have hV8 := hVc.on hb8
  clear hm0 hm1 hm2 hn0 hn1 hn2
  obtain ⟨hm0, hm1, hm2⟩ := xc8.three
  go_wp2_with fail
  refine (sameE_c evK ⟨t0, 0, []⟩ _ none c3 0 (by decide) (by decide) _ hV8 (.inl rfl)).mono ?_
  rintro e w9 ⟨rfl, hb9⟩
  rw [sameE_no]
  have k9 := k8.trans (hb9.mono k8.size)
  go_wp2_with fail
  go_ret
  exact ⟨rfl, b0.trans (k9.mono b0.size)⟩

end Go.Proofs.YthifciikmdnhaaaDoor
