/-
  What slices.Backward of a row of changes answers: the iterator over it from its end, with one box; and what that iterator tells, for every row of changes, in whatever world behind it.
  What a chain's Back answers: what a field of a version was called in an earlier one, or that it wasn't there; for every chain, names and two numbers, in whatever world; nothing that lay is turned.
-/
import Derived.Test.YtcjpaldijngnpaaGreatDoorChMove
import Derived.Test.YtcjpaldijngnpaaGreatDoorRefusal
namespace Go.Proofs.YtcjpaldijngnpaaGreatDoor
open Go.RowKit Go.Shelf

attribute [local go_sem] Oper.semAt_some

abbrev bkV (ds : List Ch) (x : Nat) : Array Value := #[.int .i64 x, (chn ds x).v]
def ElB (ds : List Ch) (pre : List Nat) (x : Nat) (_ : World) : Prop := x + pre.length + 1 = ds.length

theorem backward_c (a : Option Addr) (m cap : Nat) (w : World) : Calls Tryz.prog 42 #[.slice a m cap] w fun e w' => e = .returned (.func (.func 74) #[] #[.pointer (some ⟨w.heap.size, 0, none⟩)]) ∧ w' = w.alloc (.cells #[.slice a m cap] 25) := by
  go_enter Tryz.func42, Tryz.ntmps42
  go_wp2
  go_ret
  exact ⟨rfl, rfl⟩

set_option maxRecDepth 100000 in
set_option maxHeartbeats 4000000 in
theorem backw1_told (n : Nat) (hn : 1 ≤ n) (l Bs n₀ cap : Nat) (a : Option Addr) (ds : List Ch) (h20 : ds.length ≤ 20) (X : Nat → Prop) (J Jx : List Nat → World → Prop) (W : World)
    (hY : ∀ pre x W1, J pre W1 → ElB ds pre x W1 → YieldAt Fence.wide (n - 1) Tryz.prog l (bkV ds x) W1 fun e W' => (e = .returned (.bool true) ∧ J (pre ++ [x]) W' ∧ KeepC X W1 W') ∨ (e = .returned (.bool false) ∧ Jx (pre ++ [x]) W'))
    (hX : ∀ k, X k → n₀ ≤ k) (hBs : Box W Bs 25 #[.slice a ds.length cap]) (hXs : ¬ X Bs) (hC : Chs n₀ W a ds) (h0 : J [] W) :
    CallsIn Fence.wide n Tryz.prog 74 #[.func (.yield l) #[] #[], .pointer (some ⟨Bs, 0, none⟩)] W fun e W' => (∃ v, e = .returned v) ∧ ((∃ xs, xs.length = ds.length ∧ J xs W') ∨ ∃ pre, Jx pre W') := by
  have hs0 := hBs.one.1
  refine callsIn_of_wp Tryz.func74 rfl trivial ?_ rfl
  simp only [Tryz.ntmps74, List.size_toArray, List.length_cons, List.length_nil, Nat.reduceAdd, Nat.reduceSub, Array.replicate_succ, Array.replicate_zero, List.push_toArray, List.append_toArray, List.nil_append, List.cons_append]
  gi_wp2_with fail
  gi_loopw [3] (fun i wr => ∃ (k : Nat) (pre : List Nat), k ≤ ds.length ∧ i = .int .i64 ((ds.length : Int) - 1 - k) ∧ Hid (pre.length = k) ∧ J pre wr ∧ KeepC X W wr) (fun i _ => (intOf i + 1).toNat)
  case atStart => exact ⟨0, [], Nat.zero_le _, by simp, hide rfl, h0, KeepC.refl _ _⟩
  case round =>
    obtain ⟨k, pre, hk, rfl, hpre, hJs, hkp⟩ := hrel
    clear hs0
    have hBr := hkp.box hBs hXs
    have hs0 := hBr.one.1
    by_cases hlt : k < ds.length
    · obtain ⟨j, hj⟩ : ∃ j : Nat, j + k + 1 = ds.length := ⟨ds.length - 1 - k, by omega⟩
      have ej : ((ds.length : Int) - 1 - k) = (j : Int) := by omega
      rw [ej]
      obtain ⟨b, off, eac, hcs⟩ : ∃ b off, a = some ⟨b, off, none⟩ ∧ ∀ (i : Nat) u, (chn ds j).cs[i]? = some u → wr.cell? ⟨b, off + j * 7 + i, none⟩ = some u := by
        rcases hC with h | ⟨b, off, e, hb, hc⟩
        · rw [h] at hlt; simp at hlt
        · exact ⟨b, off, e, fun i u hu => hkp.cell (hc j (by omega) i u hu) (fun h => by have := hX _ h; omega)⟩
      obtain ⟨c, hc⟩ : ∃ c, c = chn ds j := ⟨_, rfl⟩
      rw [← hc] at hcs
      have hd0 := hcs 0 _ rfl
      have hd1 := hcs 1 _ rfl
      have hd2 := hcs 2 _ rfl
      have hd3 := hcs 3 _ rfl
      have hd4 := hcs 4 _ rfl
      have hd5 := hcs 5 _ rfl
      have hd6 := hcs 6 _ rfl
      rw [Nat.add_zero] at hd0
      clear hcs
      subst eac
      obtain ⟨fn, tmps, assign, body, hy, hR⟩ := (hY pre j wr hJs (by unfold ElB; rw [unhide hpre]; omega)).mono
        (R' := fun e W' => ∃ bb : Bool, e = .returned (.bool bb) ∧ Hid ((bb = true ∧ J (pre ++ [j]) W' ∧ KeepC X wr W') ∨ (bb = false ∧ Jx (pre ++ [j]) W')))
        (fun e W' h => by
          rcases h with ⟨rfl, h⟩ | ⟨rfl, h⟩
          · exact ⟨true, rfl, .inl ⟨rfl, h⟩⟩
          · exact ⟨false, rfl, .inr ⟨rfl, h⟩⟩)
      dsimp only [bkV] at hy
      rw [← hc] at hy
      clear hc
      have hjl : (j : Int) < ds.length := by omega
      have hj0 : (0 : Int) ≤ j := by omega
      have hn1 := hide (show ∃ (k : Nat) (pre' : List Nat), k ≤ ds.length ∧ (Value.int .i64 ((j : Int) - 1)) = .int .i64 ((ds.length : Int) - 1 - k) ∧ pre' = pre ++ [j] ∧ Hid (pre'.length = k) from
        ⟨k + 1, pre ++ [j], by omega, by congr 1; omega, rfl, hide (by rw [List.length_append, unhide hpre]; rfl)⟩)
      replace hj := hide hj
      replace ej := hide ej
      gi_wp2_with fail
      refine hR.mono ?_
      rintro e W3 ⟨bb, rfl, hbb⟩
      clear hR hy hd0 hd1 hd2 hd3 hd4 hd5 hd6 hs0
      rcases unhide hbb with ⟨rfl, hJ3, hk3⟩ | ⟨rfl, hJx3⟩
      · clear hbb
        gi_wp2_with fail
        refine ⟨?_, by simp [intOf]⟩
        obtain ⟨k1, pre1, h1, h2, rfl, h3⟩ := unhide hn1
        exact ⟨k1, _, h1, h2, h3, hJ3, hkp.trans hk3⟩
      · clear hbb
        gi_wp2_with fail
        refine bodyPost_ret (results_none rfl _ _ _) rfl ?_
        exact ⟨⟨_, rfl⟩, .inr ⟨_, hJx3⟩⟩
    · have ej : ((ds.length : Int) - 1 - k) = -1 := by omega
      rw [ej]
      have hlen := hide (show pre.length = ds.length by rw [unhide hpre]; omega)
      gi_wp2_with fail
      go_end0
      exact ⟨⟨_, rfl⟩, .inl ⟨_, unhide hlen, hJs⟩⟩

theorem backw_told (n : Nat) (hn : 1 ≤ n) (Bs n₀ cap : Nat) (a : Option Addr) (ds : List Ch) (h20 : ds.length ≤ 20) (X : Nat → Prop) (w : World) (hn₀ : n₀ ≤ w.heap.size) (hX : ∀ k, X k → n₀ ≤ k) (hBs : Box w Bs 25 #[.slice a ds.length cap]) (hXs : ¬ X Bs) (hC : Chs n₀ w a ds) :
    SeqTold okV Fence.wide n Tryz.prog 74 #[.pointer (some ⟨Bs, 0, none⟩)] (bkV ds) (KeepC X) (ElB ds) (fun xs => xs.length = ds.length) (fun _ => True) w := fun l J Jx W hW _ _ hY h0 => by
  have hC' : Chs n₀ W a ds := by
    rcases hC with h | ⟨b, off, e, hb, hc⟩
    · exact .inl h
    · exact .inr ⟨b, off, e, hb, fun j hj i u hu => (hW.cell (p := ⟨b, off + j * 7 + i, none⟩) (by simp only; omega)).trans (hc j hj i u hu)⟩
  refine (backw1_told n hn l Bs n₀ cap a ds h20 X J Jx W (fun pre x W1 h1 h2 => (hY pre x W1 h1 h2).mono fun _ _ h => h.2) hX (hBs.on hW hBs.lt) hXs hC' h0).mono ?_
  rintro e W' ⟨he, ⟨xs, h1, h2⟩ | ⟨pre, h2⟩⟩
  · exact ⟨he, .inl ⟨xs, h1, h2⟩⟩
  · exact ⟨he, .inr ⟨pre, trivial, h2⟩⟩

end Go.Proofs.YtcjpaldijngnpaaGreatDoor

namespace Go.Proofs.YtcjpaldijngnpaaGreatDoor
open Go.RowKit Go.Shelf

attribute [local go_sem] Oper.semAt_some

/-- One change undone. -/
def back1 (ty' : Txt) (c : Ch) (s : Txt) : Option Txt := if eqT c.t.1 ty' then backN c s else some s
/-- The name behind so many changes from the end. -/
def bkK (ty' : Txt) (ds : List Ch) (s : Txt) : Nat → Option Txt
  | 0 => some s
  | k + 1 => (bkK ty' ds s k).bind (back1 ty' (chn ds (ds.length - 1 - k)))
/-- The changes between two versions. -/
def cut (cs : List Ch) (f t : Nat) : List Ch := (cs.take t).drop f
theorem cut_len (cs : List Ch) {f t : Nat} (h : t ≤ cs.length) : (cut cs f t).length = t - f := by simp [cut]; omega
theorem cut_at (cs : List Ch) {f t j : Nat} (hj : j < t - f) : chn (cut cs f t) j = chn cs (f + j) := by
  simp only [chn, cut]
  rw [List.getElem?_drop, List.getElem?_take, if_pos (by omega)]
/-- What Back answers. -/
def backA (ts : List Ty) (cs : List Ch) (ty' fd' : Txt) (f t : Int) : Value :=
  if spansB cs f t = true ∧ hasF (vers ts cs t.toNat) ty'.1 fd'.1 = true then backV (bkK ty' (cut cs f.toNat t.toNat) fd' (t.toNat - f.toNat)) else backV none

theorem chs_cap {n₀ : Nat} {W : World} {a : Option Addr} {c : Nat} {cs : List Ch} (h : ChsB n₀ W a c cs) : cs.length ≤ c := by
  rcases h.1.2 with ⟨e, h0⟩ | ⟨g, c', cur, e, _, _, hn, _⟩
  · omega
  · simp only [Value.slice.injEq, true_and] at e
    rw [e.2]; exact hn
theorem bkK_none (ty' : Txt) (ds : List Ch) (s : Txt) (k : Nat) (h : bkK ty' ds s k = none) : ∀ m, bkK ty' ds s (k + m) = none
  | 0 => h
  | m + 1 => by rw [← Nat.add_assoc, bkK, bkK_none ty' ds s k h m]; rfl

set_option maxRecDepth 100000 in
set_option maxHeartbeats 4000000 in
theorem chBack_in (n : Nat) (hn : 5 ≤ n) (Bp cap capc : Nat) (a ac : Option Addr) (ts : List Ty) (cs : List Ch) (ty' fd' : Txt) (f g : Int) (hS : Sch ts) (h20 : cs.length ≤ 20) (w : World) (hC : IsCh w.heap.size w Bp a ac cap capc ts cs) :
    CallsIn Fence.wide n Tryz.prog 16 #[.pointer (some ⟨Bp, 0, none⟩), .string ty'.1, .string fd'.1, .int .i64 f, .int .i64 g] w fun e W' => e = .returned (backA ts cs ty' fd' f g) ∧ Below w.heap.size w W' := by
  have h1 : 1 ≤ n := by omega
  have hro : Fence.wide.round = none := rfl
  obtain ⟨W0, hW0⟩ : ∃ W0, W0 = (((w.alloc (.cells #[.string ty'.1] 9)).alloc (.cells #[.string fd'.1] 9)).alloc (.cells #[.string ⟨#[]⟩] 9)).alloc (.cells #[.bool false] 4) := ⟨_, rfl⟩
  have e0 : W0.heap.size = w.heap.size + 4 := by rw [hW0]; simp
  have b0 : Below w.heap.size w W0 := by rw [hW0]; exact ((((Below.refl _ _).alloc (Nat.le_refl _) _).alloc (by simp) _).alloc (by simp; omega) _).alloc (by simp; omega) _
  have x6 : Box W0 w.heap.size 9 #[.string ty'.1] := by rw [hW0]; exact (((Box.new w 9 #[.string ty'.1]).alloc _).alloc _).alloc _
  have x7 : Box W0 (w.heap.size + 1) 9 #[.string fd'.1] := by
    have := Box.new (w.alloc (.cells #[.string ty'.1] 9)) 9 #[.string fd'.1]
    simp only [World.size_alloc] at this
    rw [hW0]; exact (this.alloc _).alloc _
  have x10 : Box W0 (w.heap.size + 1 + 1) 9 #[.string ⟨#[]⟩] := by
    have := Box.new ((w.alloc (.cells #[.string ty'.1] 9)).alloc (.cells #[.string fd'.1] 9)) 9 #[.string ⟨#[]⟩]
    simp only [World.size_alloc] at this
    rw [hW0]; exact this.alloc _
  have x11 : Box W0 (w.heap.size + 1 + 1 + 1) 4 #[.bool false] := by
    have := Box.new (((w.alloc (.cells #[.string ty'.1] 9)).alloc (.cells #[.string fd'.1] 9)).alloc (.cells #[.string ⟨#[]⟩] 9)) 4 #[.bool false]
    simp only [World.size_alloc] at this
    rw [hW0]; exact this
  have C0 := (hC.on b0).mono b0.size
  refine callsIn_of_wp_marks Tryz.func16 rfl trivial ?_ rfl
  simp only [Tryz.ntmps16, List.size_toArray, List.length_cons, List.length_nil, Nat.reduceAdd, Nat.reduceSub, Array.replicate_succ, Array.replicate_zero, List.push_toArray, List.append_toArray, List.nil_append, List.cons_append]
  gi_upto_region 1 with fail
  rw [← hW0]
  clear hW0
  have ht6 := x6.one.1
  have ht7 := x7.one.1
  gi_wp2_with fail
  refine ⟨trivial, ?_⟩
  refine (callsIn_wide.2 (spans_c Bp cap capc a ac ts cs f g W0 C0)).mono ?_
  rintro e w1 ⟨rfl, ew⟩
  rw [ew]
  clear ew w1
  cases hsp : spansB cs f g
  · obtain ⟨hr0, hrf⟩ := x10.one
    obtain ⟨hq0, hqf⟩ := x11.one
    have hA := hide (show backA ts cs ty' fd' f g = backV none by simp [backA, hsp])
    replace hsp := hide hsp
    gi_wp2_with fail
    refine ⟨trivial, ?_⟩
    gi_wp2_with fail
    have s10 := (x10.set 0 (.string ⟨#[]⟩)).other ⟨w.heap.size + 1 + 1 + 1, 0, none⟩ (.bool false) (by simp only; omega)
    have s11 := (x11.other ⟨w.heap.size + 1 + 1, 0, none⟩ (.string ⟨#[]⟩) (by simp only; omega)).set 0 (.bool false)
    have d0 := s10.one.1
    have d1 := s11.one.1
    refine ⟨backV none, ?_, by rw [unhide hA], ?_⟩
    · simp [results, backV, Tryz.f16, go_sem, d0, d1]
    · exact (b0.setCell (p := ⟨w.heap.size + 1 + 1, 0, none⟩) (by simp only; omega) _).setCell (p := ⟨w.heap.size + 1 + 1 + 1, 0, none⟩) (by simp only; omega) _
  · have hsp' := hsp
    unfold spansB at hsp'
    simp only [Bool.and_eq_true, decide_eq_true_eq] at hsp'
    obtain ⟨⟨hf0, hfg⟩, hgl⟩ := hsp'
    obtain ⟨f, rfl⟩ : ∃ k : Nat, f = k := ⟨f.toNat, by omega⟩
    obtain ⟨g, rfl⟩ : ∃ k : Nat, g = k := ⟨g.toNat, by omega⟩
    have cH := chHas_c Bp cap capc a ac ts cs ty'.1 fd'.1 g (by omega) hS h20 W0 C0
    cases hh : hasF (vers ts cs g) ty'.1 fd'.1
    · rw [hh] at cH
      have hA := hide (show backA ts cs ty' fd' f g = backV none by simp [backA, hh])
      replace hsp := hide hsp
      replace hh := hide hh
      replace cH := hide cH
      gi_wp2_with fail
      refine ⟨trivial, ?_⟩
      refine (callsIn_wide.2 (unhide cH)).mono ?_
      rintro e w2 ⟨rfl, hb2⟩
      have y10 := x10.on hb2 x10.lt
      have y11 := x11.on hb2 x11.lt
      obtain ⟨hr0, hrf⟩ := y10.one
      obtain ⟨hq0, hqf⟩ := y11.one
      have bw2 := b0.trans (hb2.mono b0.size)
      gi_wp2_with fail
      have s10 := (y10.set 0 (.string ⟨#[]⟩)).other ⟨w.heap.size + 1 + 1 + 1, 0, none⟩ (.bool false) (by simp only; omega)
      have s11 := (y11.other ⟨w.heap.size + 1 + 1, 0, none⟩ (.string ⟨#[]⟩) (by simp only; omega)).set 0 (.bool false)
      have d0 := s10.one.1
      have d1 := s11.one.1
      refine ⟨backV none, ?_, by rw [unhide hA], ?_⟩
      · simp [results, backV, Tryz.f16, go_sem, d0, d1]
      · exact (bw2.setCell (p := ⟨w.heap.size + 1 + 1, 0, none⟩) (by simp only; omega) _).setCell (p := ⟨w.heap.size + 1 + 1 + 1, 0, none⟩) (by simp only; omega) _
    · rw [hh] at cH
      have hA := hide (show backA ts cs ty' fd' f g = backV (bkK ty' (cut cs f g) fd' (g - f)) by simp [backA, hh, hsp])
      replace hsp := hide hsp
      replace hh := hide hh
      replace cH := hide cH
      gi_wp2_with fail
      refine ⟨trivial, ?_⟩
      refine (callsIn_wide.2 (unhide cH)).mono ?_
      rintro e w2 ⟨rfl, hb2⟩
      have y6 := x6.on hb2 x6.lt
      have y7 := x7.on hb2 x7.lt
      have y10 := x10.on hb2 x10.lt
      have y11 := x11.on hb2 x11.lt
      have bw2 := b0.trans (hb2.mono b0.size)
      have C2 := hC.on bw2
      obtain ⟨hp0, hp1⟩ := C2.box.two
      clear ht6 ht7 cH
      have hcap := chs_cap C2.row
      have hgc : (g : Int) ≤ capc := by omega
      have hf0' : (0 : Int) ≤ f := by omega
      have hfg' : (f : Int) ≤ g := by omega
      obtain ⟨ds, hds⟩ : ∃ ds, ds = cut cs f g := ⟨_, rfl⟩
      have hdl : ds.length = g - f := by rw [hds]; exact cut_len cs (by omega)
      rw [← hds] at hA
      by_cases hfc : f = capc
      · have hDs : Chs w.heap.size w2 ac ds := .inl (List.length_eq_zero_iff.1 (by omega))
        clear hds
        subst hfc
        gi_wp2_with fail
        refine ⟨trivial, ?_⟩
        refine (callsIn_wide.2 (backward_c ac (g - f) 0 w2)).mono ?_
        rintro e w3 ⟨rfl, ew3⟩
        have b3 : Below w2.heap.size w2 w3 := by rw [ew3]; exact (Below.refl _ _).alloc (Nat.le_refl _) _
        have p3 : Box w3 w2.heap.size 25 #[.slice ac ds.length 0] := by rw [ew3, hdl]; exact Box.new _ _ _
        have e3 : w3.heap.size = w2.heap.size + 1 := by rw [ew3]; simp
        clear ew3
        have hD3 := hDs.below (b3.mono (Nat.le_trans bw2.size (Nat.le_refl _)))
        have z6 := y6.on b3 y6.lt
        have z7 := y7.on b3 y7.lt
        have z10 := y10.on b3 y10.lt
        have z11 := y11.on b3 y11.lt
        have bw3 := bw2.trans (b3.mono bw2.size)
        have hw2s : w.heap.size + 4 ≤ w2.heap.size := by have := hb2.size; omega
        have hw3s : w.heap.size + 4 < w3.heap.size := by omega
        replace hdl := hide hdl
        replace hDs := hide hDs
        replace hD3 := hide hD3
        gi_wp2_with fail
        refine wpIn_rangeFunc_told okV_of hro h1 (gf := 74) (lb := #[.pointer (some ⟨w2.heap.size, 0, none⟩)]) rfl trivial (enters_of Tryz.func74 (by kernel_rfl) rfl)
          (backw_told (n - 1) (by omega) w2.heap.size w.heap.size 0 ac ds (by have := unhide hdl; omega) (fun k => k = w.heap.size + 1) w3 (by omega) (fun k h => by subst h; omega) p3 (by omega) (unhide hD3)) KeepC.trans
          (fun W l o o' hl h hc hw => KeepC.put W h hc o') (Below.refl _ _) (fun _ => rfl)
          (fun pre W => (Box W w.heap.size 9 #[.string ty'.1] ∧ Box W (w.heap.size + 1 + 1) 9 #[.string ⟨#[]⟩] ∧ Box W (w.heap.size + 1 + 1 + 1) 4 #[.bool false]) ∧ (∃ s' : Txt, Box W (w.heap.size + 1) 9 #[.string s'.1] ∧ Hid (bkK ty' ds fd' pre.length = some s')) ∧ Below w.heap.size w W)
          (fun c pre W => c = .ret ∧ (Box W (w.heap.size + 1 + 1) 9 #[.string ⟨#[]⟩] ∧ Box W (w.heap.size + 1 + 1 + 1) 4 #[.bool false]) ∧ Hid (bkK ty' ds fd' ds.length = none) ∧ Below w.heap.size w W)
          (ownP_and (ownP_and (ownP_box (by omega) _ (fun _ => _)) (ownP_and (ownP_box (by omega) _ (fun _ => _)) (ownP_box (by omega) _ (fun _ => _)))) (ownP_and (ownP_ex fun s' => ownP_and (ownP_box (by omega) _ (fun _ => _)) (ownP_pure _ _ (fun (pre : List Nat) => Hid (bkK ty' ds fd' pre.length = some s')))) (ownP_below (by omega) (Nat.le_refl _))))
          (fun c => ownP_and (ownP_pure _ _ (fun _ => c = .ret)) (ownP_and (ownP_and (ownP_box (by omega) _ (fun _ => _)) (ownP_box (by omega) _ (fun _ => _))) (ownP_and (ownP_pure _ _ (fun _ => Hid (bkK ty' ds fd' ds.length = none))) (ownP_below (by omega) (Nat.le_refl _)))))
          ⟨⟨z6, z10, z11⟩, ⟨fd', z7, hide rfl⟩, bw3⟩
          (fun pre x a1' W => ∃ B1, (Box W B1 42 (chn ds x).cs ∧ B1 ≠ w.heap.size + 1) ∧ x + pre.length + 1 = ds.length ∧ a1' = { tmps := #[.pointer (some ⟨Bp, 0, none⟩), .string ty'.1, .string fd'.1, .int .i64 f, .int .i64 g, undef, .pointer (some ⟨w.heap.size, 0, none⟩), .pointer (some ⟨w.heap.size + 1, 0, none⟩), undef, undef, .pointer (some ⟨w.heap.size + 1 + 1, 0, none⟩), .pointer (some ⟨w.heap.size + 1 + 1 + 1, 0, none⟩), undef, .pointer (some ⟨B1, 0, none⟩), undef, undef, .pointer (some ⟨Bp, 0, none⟩), .int .i64 f, .int .i64 g, .bool true, .bool false, .bool false, .pointer (some ⟨Bp, 0, none⟩), .string ty'.1, .string fd'.1, .int .i64 g, .bool true, .bool false, .bool false, .pointer (some ⟨Bp, 0, none⟩), .pointer (some ⟨Bp, 0, none⟩), .pointer (some ⟨Bp, 1, none⟩), .slice ac cs.length f, .int .i64 f, .int .i64 g, .slice ac (g - f) 0, .func (.func 74) #[] #[.pointer (some ⟨w2.heap.size, 0, none⟩)], .int .i64 x, (chn ds x).v, undef, undef, undef, undef, undef, undef, undef, undef, undef, undef, undef, undef, undef, undef], defers := [] })
          (fun pre x a1' s A B row hs hg hr => by
            obtain ⟨B1, ⟨hf1, hf2⟩, h3, e⟩ := hs
            exact ⟨B1, ⟨box_own _ _ (fun _ => _) s A B row hf1 hg (fun r e => (hr r e).2), hf2⟩, h3, e⟩) ?assign ?body ?done ?stop
        case assign =>
          rintro l pre x W K ⟨⟨q6, q10, q11⟩, ⟨s', q7, hbk⟩, hB⟩ hel hK
          obtain ⟨WA, hWA⟩ : ∃ WA, WA = W.alloc (.cells (chn ds x).cs 42) := ⟨_, rfl⟩
          have bA : Below W.heap.size W WA := by rw [hWA]; exact (Below.refl _ W).alloc (Nat.le_refl _) _
          have r1 : Box WA W.heap.size 42 (chn ds x).cs := by rw [hWA]; exact Box.new W 42 _
          replace hel := hide hel
          replace hWA := hide hWA
          gi_wp2
          rw [← unhide hWA]
          refine hK _ _ ?_ ?_ ?_ ?_
          · exact (keeps_below bA).from _
          · exact KeepC.below bA
          · exact ⟨⟨q6.on bA q6.lt, q10.on bA q10.lt, q11.on bA q11.lt⟩, ⟨s', q7.on bA q7.lt, hbk⟩, hB.trans (bA.mono hB.size)⟩
          · exact ⟨W.heap.size, ⟨r1, by have := q7.lt; omega⟩, unhide hel, rfl⟩
        case body =>
          rintro l pre x a1' W ⟨⟨q6, q10, q11⟩, ⟨s', q7, hbk⟩, hB⟩ ⟨B1, ⟨hq, hne⟩, hel, rfl⟩
          have h2 : 1 ≤ n - 1 - 1 := by omega
          have hx : x = ds.length - 1 - pre.length := by omega
          have hnx := hide (show bkK ty' ds fd' (pre ++ [x]).length = back1 ty' (chn ds x) s' by rw [List.length_append, List.length_singleton, bkK, unhide hbk, hx]; rfl)
          have hend := hide (show (pre ++ [x]).length ≤ ds.length by rw [List.length_append, List.length_singleton]; omega)
          clear hx hel
          obtain ⟨cc, hcc⟩ : ∃ cc, cc = chn ds x := ⟨_, rfl⟩
          rw [← hcc] at hnx hq ⊢
          clear hcc
          obtain ⟨hd0, hd1, hd2, hd3, hd4, hd5, hd6⟩ := hq.seven
          have hs6 := q6.one.1
          have hs7 := q7.one.1
          cases hty : eqT cc.t.1 ty'
          · have hn2 := hide (show bkK ty' ds fd' (pre ++ [x]).length = some s' by rw [unhide hnx]; simp [back1, hty])
            have hty2 : (cc.t.1.toList == ty'.1.toList) = false := by simp only [eqT, beq_eq_false_iff_ne, ne_eq] at hty ⊢; exact fun e => hty e.symm
            clear hty
            gi_wp2_with fail
            exact ⟨KeepsFrom.refl _ _, KeepC.refl _ _, ⟨q6, q10, q11⟩, ⟨s', q7, hn2⟩, hB⟩
          · have hn2 := hide (show bkK ty' ds fd' (pre ++ [x]).length = backN cc s' by rw [unhide hnx]; simp [back1, hty])
            have hty2 : (cc.t.1.toList == ty'.1.toList) = true := by simp only [eqT, beq_iff_eq] at hty ⊢; exact hty.symm
            clear hty
            have cB := hide (back_c cc s' W)
            gi_wp2_with fail
            refine ⟨trivial, ?_⟩
            refine (CallsIn.inRound l (callsIn_wide.2 (unhide cB))).mono ?_
            rintro e W2 ⟨rfl, hb2'⟩
            clear cB hd0 hd1 hd2 hd3 hd4 hd5 hd6 hs6 hs7
            have t6 := q6.on hb2' q6.lt
            have t7 := q7.on hb2' q7.lt
            have t10 := q10.on hb2' q10.lt
            have t11 := q11.on hb2' q11.lt
            have hB2 := hB.trans (hb2'.mono hB.size)
            cases hbn : backN cc s' with
            | none =>
              rw [hbn] at hn2
              have hno := hide (show bkK ty' ds fd' ds.length = none by
                have := bkK_none ty' ds fd' _ (unhide hn2) (ds.length - (pre ++ [x]).length)
                rwa [show (pre ++ [x]).length + (ds.length - (pre ++ [x]).length) = ds.length by have := unhide hend; omega] at this)
              simp only [backV]
              obtain ⟨hr0, hrf⟩ := t10.one
              obtain ⟨hq0, hqf⟩ := t11.one
              gi_wp2_with fail
              exact ⟨((keeps_below hb2').trans ((KeepsOthers.setCell _ _ _).trans (KeepsOthers.setCell _ _ _))).from _, rfl, ⟨(t10.set 0 (.string ⟨#[]⟩)).other _ _ (by simp only; omega), (t11.other _ _ (by simp only; omega)).set 0 (.bool false)⟩, hno, (hB2.setCell (p := ⟨w.heap.size + 1 + 1, 0, none⟩) (by simp only; omega) _).setCell (p := ⟨w.heap.size + 1 + 1 + 1, 0, none⟩) (by simp only; omega) _⟩
            | some s2 =>
              rw [hbn] at hn2
              simp only [backV]
              obtain ⟨hr0, hrf⟩ := t7.one
              gi_wp2_with fail
              exact ⟨((keeps_below hb2').trans (KeepsOthers.setCell _ _ _)).from _, (KeepC.below hb2').trans (KeepC.set _ (w.heap.size + 1) 0 _ rfl), ⟨t6.other _ _ (by simp only; omega), t10.other _ _ (by simp only; omega), t11.other _ _ (by simp only; omega)⟩, ⟨s2, t7.set 0 _, hn2⟩, hB2.setCell (p := ⟨w.heap.size + 1, 0, none⟩) (by simp only; omega) _⟩
        case done =>
          rintro D ys W hD hys ⟨⟨q6, q10, q11⟩, ⟨s', q7, hbk⟩, hB⟩ hK
          rw [hys] at hbk
          clear hys
          have hA2 := hide (show backA ts cs ty' fd' f g = .tuple #[.string s'.1, .bool true] by rw [unhide hA, ← unhide hdl, unhide hbk]; rfl)
          have hs7 := q7.one.1
          obtain ⟨hr0, hrf⟩ := q10.one
          obtain ⟨hq0, hqf⟩ := q11.one
          gi_wp2_with fail
          have s10 := (q10.set 0 (.string s'.1)).other ⟨w.heap.size + 1 + 1 + 1, 0, none⟩ (.bool true) (by simp only; omega)
          have s11 := (q11.other ⟨w.heap.size + 1 + 1, 0, none⟩ (.string s'.1) (by simp only; omega)).set 0 (.bool true)
          have k3 := (KeepsOthers.setCell W ⟨w.heap.size + 1 + 1, 0, none⟩ (.string s'.1)).trans (KeepsOthers.setCell _ ⟨w.heap.size + 1 + 1 + 1, 0, none⟩ (.bool true))
          have hK' := k3.same D _ hK rfl
          have bz := (hB.setCell (p := ⟨w.heap.size + 1 + 1, 0, none⟩) (by simp only; omega) (.string s'.1)).setCell (p := ⟨w.heap.size + 1 + 1 + 1, 0, none⟩) (by simp only; omega) (.bool true)
          refine ⟨by simp, .inl ⟨_, _, rfl, run_takeDeferred hK', ?_⟩⟩
          have d0 := (s10.put hK' rfl (.deferred none)).one.1
          have d1 := (s11.put hK' rfl (.deferred none)).one.1
          refine ⟨.tuple #[.string s'.1, .bool true], ?_, by rw [unhide hA2], bz.trans (belowK_b (w := w) (Nat.le_refl _) _ D _ _ (by omega) hK' rfl rfl)⟩
          simp [results, Tryz.f16, go_sem, d0, d1]
        case stop =>
          rintro D c pre W hD - ⟨rfl, ⟨q10, q11⟩, hbk, hB⟩ hK
          have hA2 := hide (show backA ts cs ty' fd' f g = backV none by rw [unhide hA, ← unhide hdl, unhide hbk])
          gi_wp2_with fail
          refine ⟨by simp, .inl ⟨_, _, rfl, run_takeDeferred hK, ?_⟩⟩
          have d0 := (q10.put hK rfl (.deferred none)).one.1
          have d1 := (q11.put hK rfl (.deferred none)).one.1
          refine ⟨backV none, ?_, by rw [unhide hA2], hB.trans (belowK_b (w := w) (Nat.le_refl _) _ D _ _ (by omega) hK rfl rfl)⟩
          simp [results, backV, Tryz.f16, go_sem, d0, d1]
      · have hDs : Chs w.heap.size w2 (ac.map (·.add (f * 7))) ds := by
          rcases Nat.eq_zero_or_pos (g - f) with h0 | h0
          · exact .inl (List.length_eq_zero_iff.1 (by omega))
          · rcases C2.chs with h | ⟨b, off, e, hb, hc⟩
            · rw [h] at hgl; simp at hgl; omega
            · refine .inr ⟨b, off + f * 7, by rw [e]; simp [WideShapes.add_plain], hb, fun j hj i u hu => ?_⟩
              rw [hds, cut_at cs (by omega)] at hu
              have := hc (f + j) (by omega) i u hu
              rwa [show off + (f + j) * 7 + i = off + f * 7 + j * 7 + i by omega] at this
        clear hds
        have hfc' : (f : Int) < capc := by omega
        clear hfc
        gi_wp2_with fail
        refine ⟨trivial, ?_⟩
        refine (callsIn_wide.2 (backward_c (ac.map (·.add (f * 7))) (g - f) (capc - f) w2)).mono ?_
        rintro e w3 ⟨rfl, ew3⟩
        have b3 : Below w2.heap.size w2 w3 := by rw [ew3]; exact (Below.refl _ _).alloc (Nat.le_refl _) _
        have p3 : Box w3 w2.heap.size 25 #[.slice (ac.map (·.add (f * 7))) ds.length (capc - f)] := by rw [ew3, hdl]; exact Box.new _ _ _
        have e3 : w3.heap.size = w2.heap.size + 1 := by rw [ew3]; simp
        clear ew3
        have hD3 := hDs.below (b3.mono (Nat.le_trans bw2.size (Nat.le_refl _)))
        have z6 := y6.on b3 y6.lt
        have z7 := y7.on b3 y7.lt
        have z10 := y10.on b3 y10.lt
        have z11 := y11.on b3 y11.lt
        have bw3 := bw2.trans (b3.mono bw2.size)
        have hw2s : w.heap.size + 4 ≤ w2.heap.size := by have := hb2.size; omega
        have hw3s : w.heap.size + 4 < w3.heap.size := by omega
        replace hdl := hide hdl
        replace hDs := hide hDs
        replace hD3 := hide hD3
        gi_wp2_with fail
        refine wpIn_rangeFunc_told okV_of hro h1 (gf := 74) (lb := #[.pointer (some ⟨w2.heap.size, 0, none⟩)]) rfl trivial (enters_of Tryz.func74 (by kernel_rfl) rfl)
          (backw_told (n - 1) (by omega) w2.heap.size w.heap.size (capc - f) (ac.map (·.add (f * 7))) ds (by have := unhide hdl; omega) (fun k => k = w.heap.size + 1) w3 (by omega) (fun k h => by subst h; omega) p3 (by omega) (unhide hD3)) KeepC.trans
          (fun W l o o' hl h hc hw => KeepC.put W h hc o') (Below.refl _ _) (fun _ => rfl)
          (fun pre W => (Box W w.heap.size 9 #[.string ty'.1] ∧ Box W (w.heap.size + 1 + 1) 9 #[.string ⟨#[]⟩] ∧ Box W (w.heap.size + 1 + 1 + 1) 4 #[.bool false]) ∧ (∃ s' : Txt, Box W (w.heap.size + 1) 9 #[.string s'.1] ∧ Hid (bkK ty' ds fd' pre.length = some s')) ∧ Below w.heap.size w W)
          (fun c pre W => c = .ret ∧ (Box W (w.heap.size + 1 + 1) 9 #[.string ⟨#[]⟩] ∧ Box W (w.heap.size + 1 + 1 + 1) 4 #[.bool false]) ∧ Hid (bkK ty' ds fd' ds.length = none) ∧ Below w.heap.size w W)
          (ownP_and (ownP_and (ownP_box (by omega) _ (fun _ => _)) (ownP_and (ownP_box (by omega) _ (fun _ => _)) (ownP_box (by omega) _ (fun _ => _)))) (ownP_and (ownP_ex fun s' => ownP_and (ownP_box (by omega) _ (fun _ => _)) (ownP_pure _ _ (fun (pre : List Nat) => Hid (bkK ty' ds fd' pre.length = some s')))) (ownP_below (by omega) (Nat.le_refl _))))
          (fun c => ownP_and (ownP_pure _ _ (fun _ => c = .ret)) (ownP_and (ownP_and (ownP_box (by omega) _ (fun _ => _)) (ownP_box (by omega) _ (fun _ => _))) (ownP_and (ownP_pure _ _ (fun _ => Hid (bkK ty' ds fd' ds.length = none))) (ownP_below (by omega) (Nat.le_refl _)))))
          ⟨⟨z6, z10, z11⟩, ⟨fd', z7, hide rfl⟩, bw3⟩
          (fun pre x a1' W => ∃ B1, (Box W B1 42 (chn ds x).cs ∧ B1 ≠ w.heap.size + 1) ∧ x + pre.length + 1 = ds.length ∧ a1' = { tmps := #[.pointer (some ⟨Bp, 0, none⟩), .string ty'.1, .string fd'.1, .int .i64 f, .int .i64 g, undef, .pointer (some ⟨w.heap.size, 0, none⟩), .pointer (some ⟨w.heap.size + 1, 0, none⟩), undef, undef, .pointer (some ⟨w.heap.size + 1 + 1, 0, none⟩), .pointer (some ⟨w.heap.size + 1 + 1 + 1, 0, none⟩), undef, .pointer (some ⟨B1, 0, none⟩), undef, undef, .pointer (some ⟨Bp, 0, none⟩), .int .i64 f, .int .i64 g, .bool true, .bool false, .bool false, .pointer (some ⟨Bp, 0, none⟩), .string ty'.1, .string fd'.1, .int .i64 g, .bool true, .bool false, .bool false, .pointer (some ⟨Bp, 0, none⟩), .pointer (some ⟨Bp, 0, none⟩), .pointer (some ⟨Bp, 1, none⟩), .slice ac cs.length capc, .int .i64 f, .int .i64 g, .slice (ac.map (·.add (f * 7))) (g - f) (capc - f), .func (.func 74) #[] #[.pointer (some ⟨w2.heap.size, 0, none⟩)], .int .i64 x, (chn ds x).v, undef, undef, undef, undef, undef, undef, undef, undef, undef, undef, undef, undef, undef, undef], defers := [] })
          (fun pre x a1' s A B row hs hg hr => by
            obtain ⟨B1, ⟨hf1, hf2⟩, h3, e⟩ := hs
            exact ⟨B1, ⟨box_own _ _ (fun _ => _) s A B row hf1 hg (fun r e => (hr r e).2), hf2⟩, h3, e⟩) ?assign ?body ?done ?stop
        case assign =>
          rintro l pre x W K ⟨⟨q6, q10, q11⟩, ⟨s', q7, hbk⟩, hB⟩ hel hK
          obtain ⟨WA, hWA⟩ : ∃ WA, WA = W.alloc (.cells (chn ds x).cs 42) := ⟨_, rfl⟩
          have bA : Below W.heap.size W WA := by rw [hWA]; exact (Below.refl _ W).alloc (Nat.le_refl _) _
          have r1 : Box WA W.heap.size 42 (chn ds x).cs := by rw [hWA]; exact Box.new W 42 _
          replace hel := hide hel
          replace hWA := hide hWA
          gi_wp2
          rw [← unhide hWA]
          refine hK _ _ ?_ ?_ ?_ ?_
          · exact (keeps_below bA).from _
          · exact KeepC.below bA
          · exact ⟨⟨q6.on bA q6.lt, q10.on bA q10.lt, q11.on bA q11.lt⟩, ⟨s', q7.on bA q7.lt, hbk⟩, hB.trans (bA.mono hB.size)⟩
          · exact ⟨W.heap.size, ⟨r1, by have := q7.lt; omega⟩, unhide hel, rfl⟩
        case body =>
          rintro l pre x a1' W ⟨⟨q6, q10, q11⟩, ⟨s', q7, hbk⟩, hB⟩ ⟨B1, ⟨hq, hne⟩, hel, rfl⟩
          have h2 : 1 ≤ n - 1 - 1 := by omega
          have hx : x = ds.length - 1 - pre.length := by omega
          have hnx := hide (show bkK ty' ds fd' (pre ++ [x]).length = back1 ty' (chn ds x) s' by rw [List.length_append, List.length_singleton, bkK, unhide hbk, hx]; rfl)
          have hend := hide (show (pre ++ [x]).length ≤ ds.length by rw [List.length_append, List.length_singleton]; omega)
          clear hx hel
          obtain ⟨cc, hcc⟩ : ∃ cc, cc = chn ds x := ⟨_, rfl⟩
          rw [← hcc] at hnx hq ⊢
          clear hcc
          obtain ⟨hd0, hd1, hd2, hd3, hd4, hd5, hd6⟩ := hq.seven
          have hs6 := q6.one.1
          have hs7 := q7.one.1
          cases hty : eqT cc.t.1 ty'
          · have hn2 := hide (show bkK ty' ds fd' (pre ++ [x]).length = some s' by rw [unhide hnx]; simp [back1, hty])
            have hty2 : (cc.t.1.toList == ty'.1.toList) = false := by simp only [eqT, beq_eq_false_iff_ne, ne_eq] at hty ⊢; exact fun e => hty e.symm
            clear hty
            gi_wp2_with fail
            exact ⟨KeepsFrom.refl _ _, KeepC.refl _ _, ⟨q6, q10, q11⟩, ⟨s', q7, hn2⟩, hB⟩
          · have hn2 := hide (show bkK ty' ds fd' (pre ++ [x]).length = backN cc s' by rw [unhide hnx]; simp [back1, hty])
            have hty2 : (cc.t.1.toList == ty'.1.toList) = true := by simp only [eqT, beq_iff_eq] at hty ⊢; exact hty.symm
            clear hty
            have cB := hide (back_c cc s' W)
            gi_wp2_with fail
            refine ⟨trivial, ?_⟩
            refine (CallsIn.inRound l (callsIn_wide.2 (unhide cB))).mono ?_
            rintro e W2 ⟨rfl, hb2'⟩
            clear cB hd0 hd1 hd2 hd3 hd4 hd5 hd6 hs6 hs7
            have t6 := q6.on hb2' q6.lt
            have t7 := q7.on hb2' q7.lt
            have t10 := q10.on hb2' q10.lt
            have t11 := q11.on hb2' q11.lt
            have hB2 := hB.trans (hb2'.mono hB.size)
            cases hbn : backN cc s' with
            | none =>
              rw [hbn] at hn2
              have hno := hide (show bkK ty' ds fd' ds.length = none by
                have := bkK_none ty' ds fd' _ (unhide hn2) (ds.length - (pre ++ [x]).length)
                rwa [show (pre ++ [x]).length + (ds.length - (pre ++ [x]).length) = ds.length by have := unhide hend; omega] at this)
              simp only [backV]
              obtain ⟨hr0, hrf⟩ := t10.one
              obtain ⟨hq0, hqf⟩ := t11.one
              gi_wp2_with fail
              exact ⟨((keeps_below hb2').trans ((KeepsOthers.setCell _ _ _).trans (KeepsOthers.setCell _ _ _))).from _, rfl, ⟨(t10.set 0 (.string ⟨#[]⟩)).other _ _ (by simp only; omega), (t11.other _ _ (by simp only; omega)).set 0 (.bool false)⟩, hno, (hB2.setCell (p := ⟨w.heap.size + 1 + 1, 0, none⟩) (by simp only; omega) _).setCell (p := ⟨w.heap.size + 1 + 1 + 1, 0, none⟩) (by simp only; omega) _⟩
            | some s2 =>
              rw [hbn] at hn2
              simp only [backV]
              obtain ⟨hr0, hrf⟩ := t7.one
              gi_wp2_with fail
              exact ⟨((keeps_below hb2').trans (KeepsOthers.setCell _ _ _)).from _, (KeepC.below hb2').trans (KeepC.set _ (w.heap.size + 1) 0 _ rfl), ⟨t6.other _ _ (by simp only; omega), t10.other _ _ (by simp only; omega), t11.other _ _ (by simp only; omega)⟩, ⟨s2, t7.set 0 _, hn2⟩, hB2.setCell (p := ⟨w.heap.size + 1, 0, none⟩) (by simp only; omega) _⟩
        case done =>
          rintro D ys W hD hys ⟨⟨q6, q10, q11⟩, ⟨s', q7, hbk⟩, hB⟩ hK
          rw [hys] at hbk
          clear hys
          have hA2 := hide (show backA ts cs ty' fd' f g = .tuple #[.string s'.1, .bool true] by rw [unhide hA, ← unhide hdl, unhide hbk]; rfl)
          have hs7 := q7.one.1
          obtain ⟨hr0, hrf⟩ := q10.one
          obtain ⟨hq0, hqf⟩ := q11.one
          gi_wp2_with fail
          have s10 := (q10.set 0 (.string s'.1)).other ⟨w.heap.size + 1 + 1 + 1, 0, none⟩ (.bool true) (by simp only; omega)
          have s11 := (q11.other ⟨w.heap.size + 1 + 1, 0, none⟩ (.string s'.1) (by simp only; omega)).set 0 (.bool true)
          have k3 := (KeepsOthers.setCell W ⟨w.heap.size + 1 + 1, 0, none⟩ (.string s'.1)).trans (KeepsOthers.setCell _ ⟨w.heap.size + 1 + 1 + 1, 0, none⟩ (.bool true))
          have hK' := k3.same D _ hK rfl
          have bz := (hB.setCell (p := ⟨w.heap.size + 1 + 1, 0, none⟩) (by simp only; omega) (.string s'.1)).setCell (p := ⟨w.heap.size + 1 + 1 + 1, 0, none⟩) (by simp only; omega) (.bool true)
          refine ⟨by simp, .inl ⟨_, _, rfl, run_takeDeferred hK', ?_⟩⟩
          have d0 := (s10.put hK' rfl (.deferred none)).one.1
          have d1 := (s11.put hK' rfl (.deferred none)).one.1
          refine ⟨.tuple #[.string s'.1, .bool true], ?_, by rw [unhide hA2], bz.trans (belowK_b (w := w) (Nat.le_refl _) _ D _ _ (by omega) hK' rfl rfl)⟩
          simp [results, Tryz.f16, go_sem, d0, d1]
        case stop =>
          rintro D c pre W hD - ⟨rfl, ⟨q10, q11⟩, hbk, hB⟩ hK
          have hA2 := hide (show backA ts cs ty' fd' f g = backV none by rw [unhide hA, ← unhide hdl, unhide hbk])
          gi_wp2_with fail
          refine ⟨by simp, .inl ⟨_, _, rfl, run_takeDeferred hK, ?_⟩⟩
          have d0 := (q10.put hK rfl (.deferred none)).one.1
          have d1 := (q11.put hK rfl (.deferred none)).one.1
          refine ⟨backV none, ?_, by rw [unhide hA2], hB.trans (belowK_b (w := w) (Nat.le_refl _) _ D _ _ (by omega) hK rfl rfl)⟩
          simp [results, backV, Tryz.f16, go_sem, d0, d1]

theorem chBack_c (Bp cap capc : Nat) (a ac : Option Addr) (ts : List Ty) (cs : List Ch) (ty' fd' : Txt) (f g : Int) (hS : Sch ts) (h20 : cs.length ≤ 20) (w : World) (hC : IsCh w.heap.size w Bp a ac cap capc ts cs) :
    Calls Tryz.prog 16 #[.pointer (some ⟨Bp, 0, none⟩), .string ty'.1, .string fd'.1, .int .i64 f, .int .i64 g] w fun e W' => e = .returned (backA ts cs ty' fd' f g) ∧ Below w.heap.size w W' :=
  callsIn_wide.1 (chBack_in 5 (Nat.le_refl _) Bp cap capc a ac ts cs ty' fd' f g hS h20 w hC)

end Go.Proofs.YtcjpaldijngnpaaGreatDoor
