/-
  What the head of every law of layer 4 answers: true, in whatever world; nothing that lay is turned.
-/
import Derived.Test.YtnfmhcddfjgcmaaDoorApply
import Derived.Test.YtnfmhcddfjgcmaaDoorMove
import Derived.Test.YtnfmhcddfjgcmaaDoorRefAsk
namespace Go.Proofs.YtnfmhcddfjgcmaaDoor
open Go.RowKit Go.Shelf

def t1 (c : UInt8) : Txt := ⟨⟨#[c]⟩, show 1 ≤ maxLen by decide⟩
theorem place_eq (ns : List Txt) (nm : ByteArray) : placeN ns nm = ns.findIdx? fun x => x.1.data.toList == nm.data.toList := by
  unfold placeN eqT
  simp only [ByteArray.toList_eq]
/-- The schemas, the changes and the event of the head. -/
def tsO : List Ty := [(t1 97, [(t1 120, 3)])]
def tsA : List Ty := [(t1 97, [(t1 120, 3), (t1 121, 1)])]
def cA : Ch := ⟨1, t1 97, t1 121, noTxt, 1, 4, noTxt⟩
def cB : Ch := ⟨2, t1 97, t1 121, noTxt, 0, 0, noTxt⟩
def cC : Ch := ⟨4, t1 97, t1 121, noTxt, 0, 0, noTxt⟩
def cD : Ch := ⟨4, t1 97, t1 120, noTxt, 0, 0, noTxt⟩
def cE : Ch := ⟨3, t1 97, t1 120, t1 122, 0, 0, noTxt⟩
def evO : Ev := ⟨t1 97, 0, [(3, 1, noTxt)]⟩
theorem k_refA : refE tsO cA = 0 := by
  simp only [refE, formedB, bareB, noT, noD, place_eq, addE, atE, hasB, isB, isTextB, nameB, ByteArray.toList_eq]
  decide
theorem k_refB : refE tsO cB = 13 := by
  simp only [refE, formedB, bareB, noT, noD, place_eq, addE, atE, hasB, isB, isTextB, nameB, ByteArray.toList_eq]
  decide
theorem k_refC : refE tsA cC = 14 := by
  simp only [refE, formedB, bareB, noT, noD, place_eq, addE, atE, hasB, isB, isTextB, nameB, ByteArray.toList_eq]
  decide
theorem k_refD : refE tsO cD = 0 := by
  simp only [refE, formedB, bareB, noT, noD, place_eq, addE, atE, hasB, isB, isTextB, nameB, ByteArray.toList_eq]
  decide
theorem k_isO : isE tsO evO = 0 := by
  have hno : anyNo evO.vs = false := by
    simp only [anyNo, evO, List.any_cons, List.any_nil, noV, isB, ByteArray.toList_eq]
    decide
  simp only [isE, place_eq, wholeB, hno]
  decide
theorem k_appA : appT tsO cA = tsA := by
  have e : tNew cA tsO = tsA := by
    rw [tNew_map cA tsO (by decide)]
    simp only [tsO, List.map_cons, List.map_nil, chgT, fNew, fAll, fTo, fchg, ByteArray.toList_eq]
    rfl
  simp [appT, k_refA, e]
theorem k_movD : (movE tsO cD evO).vs = [(1, 1, noTxt)] := by
  have hp : placeN (tnames tsO) evO.ty.1 = some 0 := by
    simp only [place_eq]; decide
  have e : vNew (ty tsO 0).1 cD (ty tsO 0).2 evO.vs = [(1, 1, noTxt)] := by
    simp only [vNew, fAll, fTo, fchg, ByteArray.toList_eq]
    rfl
  simp [movE, hp, k_refD, k_isO, e]
theorem k_backE : backN cE (t1 122) = some (t1 120) := by
  simp only [backN, eqT, ByteArray.toList_eq]
  rfl

set_option maxHeartbeats 1000000 in
theorem one_c (w : World) : Calls Tryd.prog 16 #[] w fun e w' => ∃ ad, e = .returned (.agg #[.slice (some ad) 1 1]) ∧ Typs w'.heap.size w' (some ad) tsO ∧ Below w.heap.size w w' := by
  go_enter Tryd.func16, Tryd.ntmps16
  go_wp2_with fail
  have h0 := ((Box.new w 24 #[.slice (some ⟨w.heap.size + 1 + 1, 0, none⟩) 1 1]).alloc (.cells #[.string ⟨#[120]⟩, .int .i64 3] 56)).alloc (.cells #[.string ⟨#[97]⟩, .slice (some ⟨w.heap.size + 1, 0, none⟩) 1 1] 51)
  have h1 := (Box.new (w.alloc (.cells #[.slice (some ⟨w.heap.size + 1 + 1, 0, none⟩) 1 1] 24)) 56 #[.string ⟨#[120]⟩, .int .i64 3]).alloc (.cells #[.string ⟨#[97]⟩, .slice (some ⟨w.heap.size + 1, 0, none⟩) 1 1] 51)
  have h2 := Box.new ((w.alloc (.cells #[.slice (some ⟨w.heap.size + 1 + 1, 0, none⟩) 1 1] 24)).alloc (.cells #[.string ⟨#[120]⟩, .int .i64 3] 56)) 51 #[.string ⟨#[97]⟩, .slice (some ⟨w.heap.size + 1, 0, none⟩) 1 1]
  simp only [World.size_alloc] at h1 h2
  have hc := h0.one.1
  refine bodyPost_ret (v := .agg #[.slice (some ⟨w.heap.size + 1 + 1, 0, none⟩) 1 1]) (by simp [results, Tryd.results16, go_sem, hc]) rfl ⟨_, rfl, ?_, ?_⟩
  · refine .inr ⟨w.heap.size + 1 + 1, 0, rfl, h2.lt, fun j hj => ?_⟩
    match j, hj with
    | 0, _ =>
      refine ⟨h2.at 0 rfl, some ⟨w.heap.size + 1, 0, none⟩, 1, h2.at 1 rfl, .inr ⟨w.heap.size + 1, 0, rfl, h1.lt, fun j hj => ?_⟩, by decide⟩
      match j, hj with
      | 0, _ => exact ⟨h1.at 0 rfl, h1.at 1 rfl⟩
  · exact (((Below.refl _ _).alloc (Nat.le_refl _) _).alloc (by simp) _).alloc (by simp; omega) _

theorem hk5_of (ts : List Ty) (h : ∀ t ∈ ts, t.2.length ≤ 5) (k : Nat) : (ty ts k).2.length ≤ 5 := by
  unfold ty
  by_cases hk : k < ts.length
  · simp [hk]; exact h _ (List.getElem_mem hk)
  · simp [hk, show (default : Ty).2 = [] from rfl]
theorem hkO : ∀ k, (ty tsO k).2.length ≤ 5 := hk5_of _ (by decide)
theorem hkA : ∀ k, (ty tsA k).2.length ≤ 5 := hk5_of _ (by decide)

set_option maxRecDepth 100000 in
set_option maxHeartbeats 4000000 in
theorem known_c (w : World) : Calls Tryd.prog 4 #[] w fun e w' => e = .returned (.bool true) ∧ Below w.heap.size w w' := by
  go_enter Tryd.func4, Tryd.ntmps4
  go_wp2_with fail
  refine (one_c w).mono ?_
  rintro e w1 ⟨ad1, rfl, T1, hb1⟩
  have ca := hide (apply_c _ 1 tsO cA (by decide) hkO _ T1)
  go_wp2_with fail
  refine (unhide ca).mono ?_
  rintro e w2 ⟨a2, c2, rfl, T2, hb2⟩
  clear ca
  rw [k_appA] at T2 ⊢
  rw [k_refA, errE_zero]
  simp only [show tsA.length = 1 from rfl]
  have x1 := Box.new w2 24 #[.slice a2 1 c2]
  have bA : Below w2.heap.size w2 (w2.alloc (.cells #[.slice a2 1 c2] 24)) := (Below.refl _ _).alloc (Nat.le_refl _) _
  have b2 := hb1.trans (hb2.mono hb1.size)
  have q3 := b2.trans (bA.mono b2.size)
  have T3 := T2.on bA
  go_wp2_with fail
  refine (one_c _).mono ?_
  rintro e w4 ⟨ad4, rfl, T4, hb4⟩
  have q4 := q3.trans (hb4.mono q3.size)
  have x14 := x1.on hb4 x1.lt
  have T34 := T3.on hb4
  have ca := hide (apply_c _ 1 tsO cB (by decide) hkO _ T4)
  go_wp2_with fail
  refine (unhide ca).mono ?_
  rintro e w5 ⟨a5, c5, rfl, -, hb5⟩
  clear ca
  rw [k_refB, show errE 13 = errV 13 from rfl]
  have q5 := (q4.trans (hb5.mono q4.size)).alloc (q4.trans (hb5.mono q4.size)).size (.cells #[.slice a5 (appT tsO cB).length c5] 24)
  have bB : Below w4.heap.size w4 (w5.alloc (.cells #[.slice a5 (appT tsO cB).length c5] 24)) := hb5.alloc hb5.size _
  have x15 := x14.on bB x14.lt
  have T35 := T34.on bB
  have hx := x15.one.1
  have cc := hide (apply_c _ c2 tsA cC (by decide) hkA _ T35)
  go_wp2_with fail
  refine (unhide cc).mono ?_
  rintro e w6 ⟨a6, c6, rfl, -, hb6⟩
  clear cc hx
  rw [k_refC, show errE 14 = errV 14 from rfl]
  have bC : Below (w5.alloc (.cells #[.slice a5 (appT tsO cB).length c5] 24)).heap.size (w5.alloc (.cells #[.slice a5 (appT tsO cB).length c5] 24)) (w6.alloc (.cells #[.slice a6 (appT tsA cC).length c6] 24)) := hb6.alloc hb6.size _
  have q6 := q5.trans (bC.mono q5.size)
  have x16 := x15.on bC x15.lt
  have T36 := T35.on bC
  go_wp2_with fail
  refine (one_c _).mono ?_
  rintro e w7 ⟨ad7, rfl, T7, hb7⟩
  have bD : Below w7.heap.size w7 (w7.alloc (.cells #[.int .i64 3, .int .i64 1, .string ⟨#[]⟩] 26)) := (Below.refl _ _).alloc (Nat.le_refl _) _
  have xv := Box.new w7 26 #[.int .i64 3, .int .i64 1, .string ⟨#[]⟩]
  have V7 : Vals (w7.alloc (.cells #[.int .i64 3, .int .i64 1, .string ⟨#[]⟩] 26)).heap.size (w7.alloc (.cells #[.int .i64 3, .int .i64 1, .string ⟨#[]⟩] 26)) (some ⟨w7.heap.size, 0, none⟩) evO.vs := by
    refine .inr ⟨w7.heap.size, 0, rfl, xv.lt, fun j hj => ?_⟩
    match j, hj with
    | 0, _ => exact ⟨xv.at 0 rfl, xv.at 1 rfl, xv.at 2 rfl⟩
  have cm := hide (move_c _ _ 1 1 tsO cD evO (by decide) hkO (by decide) _ (T7.on bD) V7)
  go_wp2_with fail
  refine (unhide cm).mono ?_
  rintro e w8 ⟨a8, c8, rfl, V8, hb8⟩
  clear cm
  rw [k_movD] at V8 ⊢
  simp only [show [((1 : Int), (1 : Int), noTxt)].length = 1 from rfl]
  have q7 := q6.trans (hb7.mono q6.size)
  have q8' := q7.trans ((bD.trans (hb8.mono bD.size)).mono q7.size)
  have x18 := x16.on (hb7.trans ((bD.trans (hb8.mono bD.size)).mono hb7.size)) x16.lt
  have T38 := T36.on (hb7.trans ((bD.trans (hb8.mono bD.size)).mono hb7.size))
  have bE : Below w8.heap.size w8 (w8.alloc (.cells #[.string ⟨#[97]⟩, .int .i64 0, .slice a8 1 c8] 31)) := (Below.refl _ _).alloc (Nat.le_refl _) _
  have xm := Box.new w8 31 #[.string ⟨#[97]⟩, .int .i64 0, .slice a8 1 c8]
  have V9 := V8.on bE
  have x19 := x18.alloc (.cells #[.string ⟨#[97]⟩, .int .i64 0, .slice a8 1 c8] 31)
  have T39 := T38.on bE
  have q9 := q8'.trans (bE.mono q8'.size)
  have cb := hide (back_c cE (t1 122) (w8.alloc (.cells #[.string ⟨#[97]⟩, .int .i64 0, .slice a8 1 c8] 31)))
  go_wp2_with fail
  refine (unhide cb).mono ?_
  rintro e w9 ⟨rfl, hb9⟩
  clear cb
  rw [k_backE, show backV (some (t1 120)) = .tuple #[.string ⟨#[120]⟩, .bool true] from rfl]
  have qA := q9.trans (hb9.mono q9.size)
  have x20 := x19.on hb9 x19.lt
  have xm9 := xm.on hb9 xm.lt
  have TA := T39.on hb9
  have VA := V9.on hb9
  have h1 := x20.one.1
  obtain ⟨hm0, hm1, hm2⟩ := xm9.three
  obtain ⟨b, off, rfl, -, a', c', ht1, -⟩ := TA.at 0 (by decide)
  have ht1' : w9.cell? ⟨b, off + 1, none⟩ = some (.slice a' 2 c') := by simpa [show (ty tsA 0).2.length = 2 from rfl] using ht1
  rcases VA with h | ⟨bv, ov, rfl, -, hcv⟩
  · simp at h
  obtain ⟨hv0, hv1, hv2⟩ := hcv 0 (by decide)
  have hv0' : w9.cell? ⟨bv, ov, none⟩ = some (.int .i64 1) := by simpa [vl] using hv0
  have hv1' : w9.cell? ⟨bv, ov + 1, none⟩ = some (.int .i64 1) := by simpa [vl] using hv1
  have hv2' : w9.cell? ⟨bv, ov + 2, none⟩ = some (.string ⟨#[]⟩) := by simpa [vl] using hv2
  clear ht1 hv0 hv1 hv2 hcv T1 T2 T3 T4 T34 T35 T36 T7 T38 T39 TA V7 V8 V9 x1 x14 x15 x16 x18 x19 x20 xm xm9 xv
  go_wp2_with fail
  refine (errIs_c 13 13 _).mono ?_
  rintro e w10 ⟨rfl, rfl⟩
  go_wp2_with fail
  refine (errIs_c 14 14 _).mono ?_
  rintro e w10 ⟨rfl, rfl⟩
  go_wp2_with fail
  go_ret
  exact ⟨rfl, qA⟩

end Go.Proofs.YtnfmhcddfjgcmaaDoor
