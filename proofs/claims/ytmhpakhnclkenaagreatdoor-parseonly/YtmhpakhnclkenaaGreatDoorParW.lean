/-
  What the iterator of written tells: each word, with the bytes that it was cut from.
  The words that package parse reads of a text: their places, the bytes that each was cut from, as plain lists.
-/
import Derived.Test.YtmhpakhnclkenaaGreatDoorParU
import Derived.Test.YtmhpakhnclkenaaGreatDoorReadsIn
namespace Go.Proofs.YtmhpakhnclkenaaGreatDoor
open Go.RowKit Go.Shelf

attribute [local go_sem] Oper.semAt_some

/-- The bytes from a to b, without the blanks at their end. -/
def trm (s : ByteArray) (a b : Nat) : ByteArray := ⟨(Lib.trimRightB (s.extract a b).data.toList 32).toArray⟩
abbrev encX (x : Pw × ByteArray) : Array Value := #[x.1.v, .string x.2]
/-- Cells below n₀, but those of B, lie as they lay. -/
def KpX (n₀ B : Nat) (A C : World) : Prop := A.heap.size ≤ C.heap.size ∧ ∀ k o, k < n₀ → k ≠ B → A.heap[k]? = some o → o.isCells = true → C.heap[k]? = some o
theorem KpX.refl (n₀ B : Nat) (A : World) : KpX n₀ B A A := ⟨Nat.le_refl _, fun _ _ _ _ h _ => h⟩
theorem KpX.trans {n₀ B : Nat} {A C D : World} (h : KpX n₀ B A C) (k : KpX n₀ B C D) : KpX n₀ B A D := ⟨Nat.le_trans h.1 k.1, fun g o h1 h2 h3 h4 => k.2 g o h1 h2 (h.2 g o h1 h2 h3 h4) h4⟩
theorem KpX.bel {n₀ B : Nat} {A C : World} (hn : n₀ ≤ A.heap.size) (h : Below A.heap.size A C) : KpX n₀ B A C := ⟨h.size, fun g o h1 _ h3 _ => (h.block g (by omega)).trans h3⟩
theorem KpX.put {n₀ B : Nat} (W : World) {l : Nat} {o : Obj} (hl : W.heap[l]? = some o) (ho : o.isCells = false) (o' : Obj) : KpX n₀ B W (W.putObj l o') :=
  ⟨by simp, fun k q _ _ hk hq => (World.putObj_heap_other (fun e => by subst e; rw [hl] at hk; cases hk; rw [ho] at hq; cases hq)).trans hk⟩
theorem KpX.box {n₀ B D : Nat} {A C : World} {t : TypeId} {cs : Array Value} (h : KpX n₀ B A C) (hx : Box A D t cs) (hD : D < n₀) (hn : D ≠ B) : Box C D t cs := h.2 D _ hD hn hx rfl
theorem KpX.cell {n₀ B b i : Nat} {A C : World} {v : Value} (h : KpX n₀ B A C) (hb : b < n₀) (hn : b ≠ B) (hc : A.cell? ⟨b, i, none⟩ = some v) : C.cell? ⟨b, i, none⟩ = some v := by
  have e : C.heap[b]? = A.heap[b]? := by
    simp only [World.cell?] at hc
    cases ho : A.heap[b]? with
    | none => simp [ho] at hc
    | some o =>
      cases o with
      | cells c t r => exact h.2 b _ hb hn ho rfl
      | _ => simp [ho] at hc
  simp only [World.cell?] at hc ⊢
  rw [e]; exact hc

set_option maxRecDepth 100000 in
set_option maxHeartbeats 8000000 in
theorem written_told (n₀ B DL DS g off c : Nat) (a : Option Addr) (s : ByteArray) (hs : s.size ≤ 281474976710656) (ws : List Pw) (hwl : ws.length ≤ 1000) (en : Nat → Nat) (T : List (Pw × ByteArray))
    (hT : T.length = ws.length) (hTi : ∀ (i : Nat) w, ws[i]? = some w → T[i]? = some (w, trm s w.p.toNat (en i)))
    (hp : ∀ (i : Nat) w, ws[i]? = some w → 0 ≤ w.p ∧ w.p ≤ en i ∧ en i ≤ s.size) (hnx : ∀ (i : Nat) w, ws[i + 1]? = some w → w.p = en i) (hls : ∀ i, i + 1 = ws.length → en i = s.size)
    (w0 : World) (hn₀ : n₀ ≤ w0.heap.size) (hDL : DL < n₀) (hDS : DS < n₀) (hg : 0 < ws.length → g < n₀) (hDLB : DL ≠ B) (hDSB : DS ≠ B) (hgB : 0 < ws.length → g ≠ B)
    (ha : 0 < ws.length → a = some ⟨g, off, none⟩) (xL : Box w0 DL 59 #[.slice a ws.length c]) (xS : Box w0 DS 9 #[.string s])
    (hc : ∀ (j : Nat) w, ws[j]? = some w → ∀ (i : Nat) u, w.cs[i]? = some u → w0.cell? ⟨g, off + j * 4 + i, none⟩ = some u) :
    SeqTold okN Fence.wide 4 Tryz.prog 70 #[.pointer (some ⟨DL, 0, none⟩), .pointer (some ⟨DS, 0, none⟩)] encX (KpX n₀ B) (fun pre x _ => ∃ rest, T = pre ++ x :: rest) (fun xs => xs = T) (fun pre => ∃ rest, T = pre ++ rest) w0 := by
  intro l J Jx W hW hJ hJx hY h0
  have kW : KpX n₀ B w0 W := KpX.bel hn₀ hW
  have yL := kW.box xL hDL hDLB
  have yS := kW.box xS hDS hDSB
  replace hc : ∀ (j : Nat) w, ws[j]? = some w → ∀ (i : Nat) u, w.cs[i]? = some u → W.cell? ⟨g, off + j * 4 + i, none⟩ = some u := fun j w hj i u hu => kW.cell (hg (by have := (List.getElem?_eq_some_iff.1 hj).1; omega)) (hgB (by have := (List.getElem?_eq_some_iff.1 hj).1; omega)) (hc j w hj i u hu)
  have hnW : n₀ ≤ W.heap.size := Nat.le_trans hn₀ hW.size
  have hmx : Tryz.prog.follows .mixedOrders = true := by kernel_rfl
  have hm : s.size ≤ maxLen := by unfold maxLen; omega
  replace hc := hide hc
  replace hTi := hide hTi
  replace hp := hide hp
  replace hnx := hide hnx
  replace hls := hide hls
  clear kW xL xS hW
  refine callsIn_of_wp Tryz.func70 rfl trivial ?_ rfl
  simp only [Tryz.ntmps70, List.size_toArray, List.length_cons, List.length_nil, Nat.reduceAdd, Nat.reduceSub, Array.replicate_succ, Array.replicate_zero, List.push_toArray, List.append_toArray, List.nil_append, List.cons_append]
  have hb0 := yL.one.1
  gi_wp2_with fail
  gi_loopw [9] (fun i wr => ∃ k : Nat, k ≤ ws.length ∧ i = .int .i64 k ∧ J (T.take k) wr ∧ KpX n₀ B W wr) (fun i _ => ws.length - (intOf i).toNat)
  case atStart => exact ⟨0, Nat.zero_le _, rfl, h0, KpX.refl _ _ _⟩
  case round =>
    obtain ⟨k, hk, rfl, hJs, hkr⟩ := hrel
    by_cases hlt : k < ws.length
    · obtain rfl := ha (by omega)
      have hg := hg (by omega)
      have hgB := hgB (by omega)
      obtain ⟨x, hx⟩ : ∃ x, ws[k]? = some x := ⟨_, List.getElem?_eq_getElem hlt⟩
      obtain ⟨hp0, hp1, hp2⟩ := unhide hp k x hx
      have hTk := unhide hTi k x hx
      have hcx := unhide hc k x hx
      have htk := hide (show T.take (k + 1) = T.take k ++ [(x, trm s x.p.toNat (en k))] by rw [List.take_add_one, hTk]; rfl)
      have hel : ∃ rest, T = T.take k ++ (x, trm s x.p.toNat (en k)) :: rest := ⟨T.drop (k + 1), by
        rw [← List.singleton_append, ← List.append_assoc, ← unhide htk, List.take_append_drop]⟩
      have d0 : wr.cell? ⟨g, off + k * 4 + 0, none⟩ = some (.int .i64 x.k) := hkr.cell hg hgB (hcx 0 _ rfl)
      have d1 : wr.cell? ⟨g, off + k * 4 + 1, none⟩ = some (.string x.t.1) := hkr.cell hg hgB (hcx 1 _ rfl)
      have d2 : wr.cell? ⟨g, off + k * 4 + 2, none⟩ = some (.int .i64 x.n) := hkr.cell hg hgB (hcx 2 _ rfl)
      have d3 : wr.cell? ⟨g, off + k * 4 + 3, none⟩ = some (.int .i64 x.p) := hkr.cell hg hgB (hcx 3 _ rfl)
      simp only [Nat.add_zero] at d0 d1 d2 d3
      have e0 := (hkr.box yL hDL hDLB).one.1
      have e1 := (hkr.box yS hDS hDSB).one.1
      have hkl : (k : Int) < ws.length := by omega
      have hgw : g < wr.heap.size := by have := hkr.1; omega
      have hw1 : IntKind.i64.wrap ((k : Int) + 1) = k + 1 := by rw [IntKind.wrap_i64]; omega
      replace hel := hide hel
      clear hcx hTk hx
      obtain ⟨P5, hP5⟩ : ∃ P5, P5 = wr.heap.size := ⟨_, rfl⟩
      obtain ⟨p0, hpx⟩ : ∃ p0 : Nat, x.p = p0 := ⟨x.p.toNat, by omega⟩
      rw [hpx] at d3 hp1
      have hpt : x.p.toNat = p0 := by omega
      rw [hpt] at htk hel
      obtain ⟨tz, htz⟩ : ∃ tz, tz = trm s p0 (en k) := ⟨_, rfl⟩
      rw [← htz] at htk hel
      have cT := hide (fun (U : World) => (show Calls Tryz.prog 71 #[.string (s.extract p0 (en k)), .string ⟨#[32]⟩] U fun e w' => e = .returned (.string tz) ∧ w' = U from by rw [htz]; exact Tryz.strings_TrimRight_one (s.extract p0 (en k)) 32 (by decide) U (by rw [ByteArray.size_extract]; omega)))
      clear htz
      obtain ⟨V, hV⟩ : ∃ V, V = wr.alloc (.cells #[.int .i64 x.k, .string x.t.1, .int .i64 x.n, .int .i64 p0] 74) := ⟨_, rfl⟩
      have bV : Below wr.heap.size wr V := by rw [hV]; exact (Below.refl _ _).alloc (Nat.le_refl _) _
      have xV := hide (show Box V P5 74 #[.int .i64 x.k, .string x.t.1, .int .i64 x.n, .int .i64 p0] by rw [hV, hP5]; exact Box.new _ _ _)
      have hnr : n₀ ≤ wr.heap.size := Nat.le_trans hnW hkr.1
      have sV := hide ((hkr.box yS hDS hDSB).on bV (hkr.box yS hDS hDSB).lt)
      have JV := hide (hJ.below hJs bV)
      have kV := hide (hkr.trans (KpX.bel hnr bV))
      have hnV := hide (Nat.le_trans hnr bV.size)
      have cc := hide (fun (j : Nat) w (hj : ws[j]? = some w) (i : Nat) u (hu : w.cs[i]? = some u) => (unhide kV).cell hg hgB (unhide hc j w hj i u hu))
      have e0V := (bV.cell (p := ⟨DL, 0, none⟩) (by have := hnr; show DL < _; omega)).trans e0
      have e1V := (bV.cell (p := ⟨DS, 0, none⟩) (by have := hnr; show DS < _; omega)).trans e1
      have hp2' : en k ≤ s.size := hp2
      have hp1' : p0 ≤ en k := by omega
      replace hpx := hide hpx
      clear hJs hkr e0 e1 bV hp0 hp1 hp2 hpt
      gi_upto_region 3 with fail
      rw [← hP5, ← hV]
      clear hV hP5
      by_cases hlt2 : k + 1 < ws.length
      · obtain ⟨y, hy⟩ : ∃ y, ws[k + 1]? = some y := ⟨_, List.getElem?_eq_getElem hlt2⟩
        have hye := unhide hnx k y hy
        have d4 : V.cell? ⟨g, off + (k + 1) * 4 + 3, none⟩ = some (.int .i64 y.p) := unhide cc (k + 1) y hy 3 _ rfl
        rw [hye] at d4
        have hkl2 : (k : Int) + 1 < ws.length := by omega
        have hgV : g < V.heap.size := by have := unhide hnV; omega
        clear hy hye
        gi_upto_region 6 with fail
        obtain ⟨V1, hV1⟩ : ∃ V1, V1 = ({ heap := V.heap, tape := V.tape, drawn := V.drawn + 1, os := V.os, output := V.output } : World) := ⟨_, rfl⟩
        have bV1 : Below V.heap.size V V1 := by rw [hV1]; exact (Below.refl _ _).drew
        have JV1 := hide (hJ.below (unhide JV) bV1)
        have kV1 := hide ((unhide kV).trans (KpX.bel (unhide hnV) bV1))
        have cD : Box V1 P5 74 #[.int .i64 x.k, .string x.t.1, .int .i64 x.n, .int .i64 p0] ∧ Box V1 DS 9 #[.string s] := ⟨(unhide xV).on bV1 (unhide xV).lt, (unhide sV).on bV1 (unhide sV).lt⟩
        refine wpIn_region_any hmx (wpAnyIn_of_Z (z := 8) (C := fun w' => Box w' P5 74 #[.int .i64 x.k, .string x.t.1, .int .i64 x.n, .int .i64 p0] ∧ Box w' DS 9 #[.string s]) _ _ _ _ ?_)
        rw [← hV1]
        clear hV1 JV kV bV1
        refine wpAnyZI_reads (fun _ => trivial) 0 cD (by kernel_rfl) (by kernel_rfl) (by kernel_rfl) (by kernel_rfl) [8] (by kernel_rfl) (by kernel_rfl) (by kernel_rfl) (by kernel_rfl) (fun d _ _ _ _ h => by cases d <;> exact h) (fun oi ho K hK => ?_)
        simp only [List.getElem?_toArray, List.getElem?_cons_zero, Option.some.injEq] at ho
        subst ho
        rw [if_pos (by kernel_rfl)]
        refine ⟨.func (.yield l) #[] #[], fun w' hw' => ?_, hK _ ?_⟩
        · clear hw'
          go_simp
        clear hK K
        refine wpAnyZI_reads (fun _ => trivial) 1 cD (by kernel_rfl) (by kernel_rfl) (by kernel_rfl) (by kernel_rfl) [8] (by kernel_rfl) (by kernel_rfl) (by kernel_rfl) (by kernel_rfl) (fun d _ _ _ _ h => by cases d <;> exact h) (fun oi ho K hK => ?_)
        simp only [List.getElem?_toArray, List.getElem?_cons_succ, List.getElem?_cons_zero, Option.some.injEq] at ho
        subst ho
        rw [if_pos (by kernel_rfl)]
        refine ⟨.agg #[.int .i64 x.k, .string x.t.1, .int .i64 x.n, .int .i64 p0], fun w' hw' => ?_, hK _ ?_⟩
        · obtain ⟨hx0, hx1⟩ := hw'; obtain ⟨hq0, hq1, hq2, hq3, -⟩ := hx0.four8; have hs0 := hx1.one.1
          go_simp
        clear hK K
        refine wpAnyZI_reads (fun _ => trivial) 2 cD (by kernel_rfl) (by kernel_rfl) (by kernel_rfl) (by kernel_rfl) [8, 7, 6] (by kernel_rfl) (by kernel_rfl) (by kernel_rfl) (by kernel_rfl) (fun d _ _ _ _ h => by cases d <;> exact h) (fun oi ho K hK => ?_)
        simp only [List.getElem?_toArray, List.getElem?_cons_succ, List.getElem?_cons_zero, Option.some.injEq] at ho
        subst ho
        rw [if_pos (by kernel_rfl)]
        refine ⟨.string s, fun w' hw' => ?_, hK _ ?_⟩
        · obtain ⟨hx0, hx1⟩ := hw'; obtain ⟨hq0, hq1, hq2, hq3, -⟩ := hx0.four8; have hs0 := hx1.one.1
          go_simp
        clear hK K
        refine wpAnyZI_reads (fun _ => trivial) 3 cD (by kernel_rfl) (by kernel_rfl) (by kernel_rfl) (by kernel_rfl) [8, 7, 6, 4] (by kernel_rfl) (by kernel_rfl) (by kernel_rfl) (by kernel_rfl) (fun d _ _ _ _ h => by cases d <;> exact h) (fun oi ho K hK => ?_)
        simp only [List.getElem?_toArray, List.getElem?_cons_succ, List.getElem?_cons_zero, Option.some.injEq] at ho
        subst ho
        rw [if_pos (by kernel_rfl)]
        refine ⟨.pointer (some ⟨P5, 3, none⟩), fun w' hw' => ?_, hK _ ?_⟩
        · obtain ⟨hx0, hx1⟩ := hw'; obtain ⟨hq0, hq1, hq2, hq3, -⟩ := hx0.four8; have hs0 := hx1.one.1
          go_simp
        clear hK K
        refine wpAnyZI_reads (fun _ => trivial) 4 cD (by kernel_rfl) (by kernel_rfl) (by kernel_rfl) (by kernel_rfl) [8, 7, 6] (by kernel_rfl) (by kernel_rfl) (by kernel_rfl) (by kernel_rfl) (fun d _ _ _ _ h => by cases d <;> exact h) (fun oi ho K hK => ?_)
        simp only [List.getElem?_toArray, List.getElem?_cons_succ, List.getElem?_cons_zero, Option.some.injEq] at ho
        subst ho
        rw [if_pos (by kernel_rfl)]
        refine ⟨.int .i64 p0, fun w' hw' => ?_, hK _ ?_⟩
        · obtain ⟨hx0, hx1⟩ := hw'; obtain ⟨hq0, hq1, hq2, hq3, -⟩ := hx0.four8; have hs0 := hx1.one.1
          go_simp
        clear hK K
        refine wpAnyZI_reads (fun _ => trivial) 5 cD (by kernel_rfl) (by kernel_rfl) (by kernel_rfl) (by kernel_rfl) [8, 7, 6] (by kernel_rfl) (by kernel_rfl) (by kernel_rfl) (by kernel_rfl) (fun d _ _ _ _ h => by cases d <;> exact h) (fun oi ho K hK => ?_)
        simp only [List.getElem?_toArray, List.getElem?_cons_succ, List.getElem?_cons_zero, Option.some.injEq] at ho
        subst ho
        rw [if_pos (by kernel_rfl)]
        refine ⟨.int .i64 (en k), fun w' hw' => ?_, hK _ ?_⟩
        · clear hw'
          go_simp
        clear hK K
        refine wpAnyZI_reads (fun _ => trivial) 6 cD (by kernel_rfl) (by kernel_rfl) (by kernel_rfl) (by kernel_rfl) [8, 7] (by kernel_rfl) (by kernel_rfl) (by kernel_rfl) (by kernel_rfl) (fun d _ _ _ _ h => by cases d <;> exact h) (fun oi ho K hK => ?_)
        simp only [List.getElem?_toArray, List.getElem?_cons_succ, List.getElem?_cons_zero, Option.some.injEq] at ho
        subst ho
        rw [if_pos (by kernel_rfl)]
        refine ⟨.string (s.extract p0 (en k)), fun w' hw' => ?_, hK _ ?_⟩
        · obtain ⟨hx0, hx1⟩ := hw'; obtain ⟨hq0, hq1, hq2, hq3, -⟩ := hx0.four8; have hs0 := hx1.one.1
          go_simp
        clear hK K
        refine wpAnyZI_calls (fun _ => trivial) 7 (by kernel_rfl) (fun oi ho K hK => ?_)
        simp only [List.getElem?_toArray, List.getElem?_cons_succ, List.getElem?_cons_zero, Option.some.injEq] at ho
        subst ho
        go_simp
        refine ⟨trivial, ?_⟩
        refine (callsIn_wide.2 (unhide cT V1)).mono ?_
        rintro r W2 ⟨rfl, rfl⟩
        go_simp
        refine hK _ _ (.inr cD) ?_
        clear hK K
        obtain ⟨fn, tmps, assign, body, hy, hR⟩ := hY _ (x, tz) W2 (unhide JV1) (unhide hel)
        have hyy : (Instr.yield l #[.agg #[.int .i64 x.k, .string x.t.1, .int .i64 x.n, .int .i64 p0], .string tz]).run Tryz.prog W2 = .ok (.round l fn tmps assign body) W2 := by
          have := hy
          rw [show encX (x, tz) = #[.agg #[.int .i64 x.k, .string x.t.1, .int .i64 x.n, .int .i64 p0], .string tz] by simp only [encX, Pw.v, Pw.cs, unhide hpx]] at this
          exact this
        clear hy
        refine wpAnyZI_calls (fun _ => trivial) 8 (by kernel_rfl) (fun oi ho K hK => ?_)
        simp only [List.getElem?_toArray, List.getElem?_cons_succ, List.getElem?_cons_zero, Option.some.injEq] at ho
        subst ho
        go_simp
        refine hR.mono ?_
        rintro e W3 ⟨-, ⟨rfl, hJ3, hk3⟩ | ⟨rfl, hJx3⟩⟩
        · go_simp
          refine hK _ _ (.inl rfl) ?_
          clear hK K hJx
          refine wpAnyZI_calls (fun _ => trivial) 9 (by kernel_rfl) (fun oi ho K hK => ?_)
          simp only [List.getElem?_toArray, List.getElem?_cons_succ, List.getElem?_cons_zero, Option.some.injEq] at ho
          subst ho
          go_simp
          refine hK _ _ (.inl rfl) ?_
          clear hK K
          refine wpAnyZI_done (by kernel_rfl) ?_ _
          gi_wp2_with fail
          go_roundw
          case rel => exact ⟨k + 1, by omega, by go_num, by rw [unhide htk]; exact hJ3, (unhide kV1).trans hk3⟩
          case measure => simp [intOf]; omega
        · go_simp
          refine hK _ _ (.inl rfl) ?_
          clear hK K
          refine wpAnyZI_calls (fun _ => trivial) 9 (by kernel_rfl) (fun oi ho K hK => ?_)
          simp only [List.getElem?_toArray, List.getElem?_cons_succ, List.getElem?_cons_zero, Option.some.injEq] at ho
          subst ho
          go_simp
          refine hK _ _ (.inl rfl) ?_
          clear hK K
          refine wpAnyZI_done (by kernel_rfl) ?_ _
          gi_wp2_with fail
          refine bodyPost_ret (results_none rfl _ _ _) rfl ?_
          obtain ⟨rest, hr⟩ := unhide hel
          exact ⟨⟨_, rfl⟩, .inr ⟨_, ⟨rest, by rw [List.append_assoc]; exact hr⟩, hJx3⟩⟩

      · have hye := unhide hls k (by omega)
        have hkl2 : ¬ ((k : Int) + 1 < ws.length) := by omega
        gi_upto_region 6 with fail
        rw [← hye]
        clear hye
        obtain ⟨V1, hV1⟩ : ∃ V1, V1 = ({ heap := V.heap, tape := V.tape, drawn := V.drawn + 1, os := V.os, output := V.output } : World) := ⟨_, rfl⟩
        have bV1 : Below V.heap.size V V1 := by rw [hV1]; exact (Below.refl _ _).drew
        have JV1 := hide (hJ.below (unhide JV) bV1)
        have kV1 := hide ((unhide kV).trans (KpX.bel (unhide hnV) bV1))
        have cD : Box V1 P5 74 #[.int .i64 x.k, .string x.t.1, .int .i64 x.n, .int .i64 p0] ∧ Box V1 DS 9 #[.string s] := ⟨(unhide xV).on bV1 (unhide xV).lt, (unhide sV).on bV1 (unhide sV).lt⟩
        refine wpIn_region_any hmx (wpAnyIn_of_Z (z := 8) (C := fun w' => Box w' P5 74 #[.int .i64 x.k, .string x.t.1, .int .i64 x.n, .int .i64 p0] ∧ Box w' DS 9 #[.string s]) _ _ _ _ ?_)
        rw [← hV1]
        clear hV1 JV kV bV1
        refine wpAnyZI_reads (fun _ => trivial) 0 cD (by kernel_rfl) (by kernel_rfl) (by kernel_rfl) (by kernel_rfl) [8] (by kernel_rfl) (by kernel_rfl) (by kernel_rfl) (by kernel_rfl) (fun d _ _ _ _ h => by cases d <;> exact h) (fun oi ho K hK => ?_)
        simp only [List.getElem?_toArray, List.getElem?_cons_zero, Option.some.injEq] at ho
        subst ho
        rw [if_pos (by kernel_rfl)]
        refine ⟨.func (.yield l) #[] #[], fun w' hw' => ?_, hK _ ?_⟩
        · clear hw'
          go_simp
        clear hK K
        refine wpAnyZI_reads (fun _ => trivial) 1 cD (by kernel_rfl) (by kernel_rfl) (by kernel_rfl) (by kernel_rfl) [8] (by kernel_rfl) (by kernel_rfl) (by kernel_rfl) (by kernel_rfl) (fun d _ _ _ _ h => by cases d <;> exact h) (fun oi ho K hK => ?_)
        simp only [List.getElem?_toArray, List.getElem?_cons_succ, List.getElem?_cons_zero, Option.some.injEq] at ho
        subst ho
        rw [if_pos (by kernel_rfl)]
        refine ⟨.agg #[.int .i64 x.k, .string x.t.1, .int .i64 x.n, .int .i64 p0], fun w' hw' => ?_, hK _ ?_⟩
        · obtain ⟨hx0, hx1⟩ := hw'; obtain ⟨hq0, hq1, hq2, hq3, -⟩ := hx0.four8; have hs0 := hx1.one.1
          go_simp
        clear hK K
        refine wpAnyZI_reads (fun _ => trivial) 2 cD (by kernel_rfl) (by kernel_rfl) (by kernel_rfl) (by kernel_rfl) [8, 7, 6] (by kernel_rfl) (by kernel_rfl) (by kernel_rfl) (by kernel_rfl) (fun d _ _ _ _ h => by cases d <;> exact h) (fun oi ho K hK => ?_)
        simp only [List.getElem?_toArray, List.getElem?_cons_succ, List.getElem?_cons_zero, Option.some.injEq] at ho
        subst ho
        rw [if_pos (by kernel_rfl)]
        refine ⟨.string s, fun w' hw' => ?_, hK _ ?_⟩
        · obtain ⟨hx0, hx1⟩ := hw'; obtain ⟨hq0, hq1, hq2, hq3, -⟩ := hx0.four8; have hs0 := hx1.one.1
          go_simp
        clear hK K
        refine wpAnyZI_reads (fun _ => trivial) 3 cD (by kernel_rfl) (by kernel_rfl) (by kernel_rfl) (by kernel_rfl) [8, 7, 6, 4] (by kernel_rfl) (by kernel_rfl) (by kernel_rfl) (by kernel_rfl) (fun d _ _ _ _ h => by cases d <;> exact h) (fun oi ho K hK => ?_)
        simp only [List.getElem?_toArray, List.getElem?_cons_succ, List.getElem?_cons_zero, Option.some.injEq] at ho
        subst ho
        rw [if_pos (by kernel_rfl)]
        refine ⟨.pointer (some ⟨P5, 3, none⟩), fun w' hw' => ?_, hK _ ?_⟩
        · obtain ⟨hx0, hx1⟩ := hw'; obtain ⟨hq0, hq1, hq2, hq3, -⟩ := hx0.four8; have hs0 := hx1.one.1
          go_simp
        clear hK K
        refine wpAnyZI_reads (fun _ => trivial) 4 cD (by kernel_rfl) (by kernel_rfl) (by kernel_rfl) (by kernel_rfl) [8, 7, 6] (by kernel_rfl) (by kernel_rfl) (by kernel_rfl) (by kernel_rfl) (fun d _ _ _ _ h => by cases d <;> exact h) (fun oi ho K hK => ?_)
        simp only [List.getElem?_toArray, List.getElem?_cons_succ, List.getElem?_cons_zero, Option.some.injEq] at ho
        subst ho
        rw [if_pos (by kernel_rfl)]
        refine ⟨.int .i64 p0, fun w' hw' => ?_, hK _ ?_⟩
        · obtain ⟨hx0, hx1⟩ := hw'; obtain ⟨hq0, hq1, hq2, hq3, -⟩ := hx0.four8; have hs0 := hx1.one.1
          go_simp
        clear hK K
        refine wpAnyZI_reads (fun _ => trivial) 5 cD (by kernel_rfl) (by kernel_rfl) (by kernel_rfl) (by kernel_rfl) [8, 7, 6] (by kernel_rfl) (by kernel_rfl) (by kernel_rfl) (by kernel_rfl) (fun d _ _ _ _ h => by cases d <;> exact h) (fun oi ho K hK => ?_)
        simp only [List.getElem?_toArray, List.getElem?_cons_succ, List.getElem?_cons_zero, Option.some.injEq] at ho
        subst ho
        rw [if_pos (by kernel_rfl)]
        refine ⟨.int .i64 (en k), fun w' hw' => ?_, hK _ ?_⟩
        · clear hw'
          go_simp
        clear hK K
        refine wpAnyZI_reads (fun _ => trivial) 6 cD (by kernel_rfl) (by kernel_rfl) (by kernel_rfl) (by kernel_rfl) [8, 7] (by kernel_rfl) (by kernel_rfl) (by kernel_rfl) (by kernel_rfl) (fun d _ _ _ _ h => by cases d <;> exact h) (fun oi ho K hK => ?_)
        simp only [List.getElem?_toArray, List.getElem?_cons_succ, List.getElem?_cons_zero, Option.some.injEq] at ho
        subst ho
        rw [if_pos (by kernel_rfl)]
        refine ⟨.string (s.extract p0 (en k)), fun w' hw' => ?_, hK _ ?_⟩
        · obtain ⟨hx0, hx1⟩ := hw'; obtain ⟨hq0, hq1, hq2, hq3, -⟩ := hx0.four8; have hs0 := hx1.one.1
          go_simp
        clear hK K
        refine wpAnyZI_calls (fun _ => trivial) 7 (by kernel_rfl) (fun oi ho K hK => ?_)
        simp only [List.getElem?_toArray, List.getElem?_cons_succ, List.getElem?_cons_zero, Option.some.injEq] at ho
        subst ho
        go_simp
        refine ⟨trivial, ?_⟩
        refine (callsIn_wide.2 (unhide cT V1)).mono ?_
        rintro r W2 ⟨rfl, rfl⟩
        go_simp
        refine hK _ _ (.inr cD) ?_
        clear hK K
        obtain ⟨fn, tmps, assign, body, hy, hR⟩ := hY _ (x, tz) W2 (unhide JV1) (unhide hel)
        have hyy : (Instr.yield l #[.agg #[.int .i64 x.k, .string x.t.1, .int .i64 x.n, .int .i64 p0], .string tz]).run Tryz.prog W2 = .ok (.round l fn tmps assign body) W2 := by
          have := hy
          rw [show encX (x, tz) = #[.agg #[.int .i64 x.k, .string x.t.1, .int .i64 x.n, .int .i64 p0], .string tz] by simp only [encX, Pw.v, Pw.cs, unhide hpx]] at this
          exact this
        clear hy
        refine wpAnyZI_calls (fun _ => trivial) 8 (by kernel_rfl) (fun oi ho K hK => ?_)
        simp only [List.getElem?_toArray, List.getElem?_cons_succ, List.getElem?_cons_zero, Option.some.injEq] at ho
        subst ho
        go_simp
        refine hR.mono ?_
        rintro e W3 ⟨-, ⟨rfl, hJ3, hk3⟩ | ⟨rfl, hJx3⟩⟩
        · go_simp
          refine hK _ _ (.inl rfl) ?_
          clear hK K hJx
          refine wpAnyZI_calls (fun _ => trivial) 9 (by kernel_rfl) (fun oi ho K hK => ?_)
          simp only [List.getElem?_toArray, List.getElem?_cons_succ, List.getElem?_cons_zero, Option.some.injEq] at ho
          subst ho
          go_simp
          refine hK _ _ (.inl rfl) ?_
          clear hK K
          refine wpAnyZI_done (by kernel_rfl) ?_ _
          gi_wp2_with fail
          go_roundw
          case rel => exact ⟨k + 1, by omega, by go_num, by rw [unhide htk]; exact hJ3, (unhide kV1).trans hk3⟩
          case measure => simp [intOf]; omega
        · go_simp
          refine hK _ _ (.inl rfl) ?_
          clear hK K
          refine wpAnyZI_calls (fun _ => trivial) 9 (by kernel_rfl) (fun oi ho K hK => ?_)
          simp only [List.getElem?_toArray, List.getElem?_cons_succ, List.getElem?_cons_zero, Option.some.injEq] at ho
          subst ho
          go_simp
          refine hK _ _ (.inl rfl) ?_
          clear hK K
          refine wpAnyZI_done (by kernel_rfl) ?_ _
          gi_wp2_with fail
          refine bodyPost_ret (results_none rfl _ _ _) rfl ?_
          obtain ⟨rest, hr⟩ := unhide hel
          exact ⟨⟨_, rfl⟩, .inr ⟨_, ⟨rest, by rw [List.append_assoc]; exact hr⟩, hJx3⟩⟩

    · have hke : T.take k = T := List.take_of_length_le (by omega)
      replace hke := hide hke
      gi_wp2_with fail
      go_end0
      exact ⟨⟨_, rfl⟩, .inl ⟨_, unhide hke, hJs⟩⟩

end Go.Proofs.YtmhpakhnclkenaaGreatDoor

namespace Go.Proofs.YtmhpakhnclkenaaGreatDoor
open Go.RowKit Go.Shelf

/-- A word of a text, as the reader has it. -/
def pwOf : Wd → Pw
  | .word k t n p => ⟨k, if h : t.length ≤ maxLen then ⟨⟨t.toArray⟩, by show t.toArray.size ≤ maxLen; simpa using h⟩ else ⟨⟨#[]⟩, by decide⟩, n, p⟩
  | .bad _ => pw0
def wordsP (s : ByteArray) : List Pw := (wordsL s.data.toList).map pwOf
/-- Where a word's bytes end: at the next word, or with the text. -/
def endP' (s : ByteArray) (i : Nat) : Nat := match (wordsP s)[i + 1]? with
  | some w => w.p.toNat
  | none => s.size
def pairsP (s : ByteArray) : List (Pw × ByteArray) := (wordsP s).mapIdx fun i w => (w, trm s w.p.toNat (endP' s i))
/-- A number that is not written as it must be is of no kind. -/
def fixW (x : Pw × ByteArray) : Pw := if (decide (x.1.k = 2) && !(x.2.toList == (valB 1 x.1.n ⟨#[]⟩).toList)) = true then { x.1 with k := 0 } else x.1
def readP (s : ByteArray) : Ps := ⟨(pairsP s).map fixW, 0, errL 0 (cutL s.data.toList)⟩

theorem firstW_t {l : List UInt8} {k : Int} {t : List UInt8} {n : Int} {len : Nat} (h : firstW l = .word k t n len) : t.length ≤ 16 := by
  unfold firstW at h
  split at h
  · cases h
  · split at h
    · unfold nameW at h; split at h
      · cases h; omega
      · cases h
    · split at h
      · unfold greatW at h; split at h
        · cases h; omega
        · cases h
      · split at h
        · unfold numW at h; split at h
          · cases h; simp
          · cases h
        · split at h
          · unfold textW at h
            split at h
            · cases h
            · split at h
              · cases h; omega
              · cases h
          · unfold signW at h
            split at h
            · rename_i t' ht'
              cases h
              have hm := List.mem_of_find?_eq_some ht'
              have : ∀ t ∈ signsL, t.length ≤ 2 := by decide
              have := this _ hm
              omega
            · cases h
theorem toks_t : ∀ (f a : Nat) (l : List UInt8) (x : Wd), x ∈ toksL f a l → ∀ k t n p, x = .word k t n p → t.length ≤ 16
  | 0, _, _, x, h, _, _, _, _, _ => by simp [toksL] at h
  | f + 1, a, l, x, h, k, t, n, p, e => by
    cases l with
    | nil => simp [toksL] at h
    | cons c r =>
      simp only [toksL] at h
      split at h
      · exact toks_t f _ _ x h k t n p e
      · split at h
        · rw [List.mem_singleton] at h; rw [h] at e; cases e
        · rename_i k' t' n' len hw
          rw [List.mem_cons] at h
          rcases h with h | h
          · rw [h] at e; cases e
            exact firstW_t hw
          · exact toks_t f _ _ x h k t n p e
/-- Places rise, and lie within the text. -/
theorem toks_place : ∀ (f a : Nat) (l : List UInt8), ∀ (i : Nat) k t n (p : Nat), (toksL f a l)[i]? = some (.word k t n p) → a ≤ p ∧ p < a + l.length ∧ ∀ k' t' n' (p' : Nat), (toksL f a l)[i + 1]? = some (.word k' t' n' p') → p ≤ p'
  | 0, _, _, i, _, _, _, _, h => by simp [toksL] at h
  | f + 1, a, l, i, k, t, n, p, h => by
    cases l with
    | nil => simp [toksL] at h
    | cons c r =>
      simp only [toksL] at h ⊢
      by_cases hc : c.toNat = 32
      · rw [if_pos hc] at h ⊢
        obtain ⟨h1, h2, h3⟩ := toks_place f (a + 1) r i k t n p h
        exact ⟨by omega, by simp; omega, h3⟩
      · rw [if_neg hc] at h ⊢
        cases hw : firstW (c :: r) with
        | bad e => rw [hw] at h; simp only at h; cases i with
          | zero => simp at h
          | succ i => simp at h
        | word k0 t0 n0 len =>
          rw [hw] at h
          simp only at h ⊢
          have hl := firstW_len hw
          cases i with
          | zero =>
            simp at h
            obtain ⟨rfl, rfl, rfl, rfl⟩ := h
            refine ⟨Nat.le_refl _, by simp, fun k' t' n' p' h' => ?_⟩
            obtain ⟨h1, _, _⟩ := toks_place f (a + len) ((c :: r).drop len) 0 k' t' n' p' (by simpa using h')
            omega
          | succ i =>
            obtain ⟨h1, h2, h3⟩ := toks_place f (a + len) ((c :: r).drop len) i k t n p (by simpa using h)
            refine ⟨by omega, ?_, fun k' t' n' p' h' => h3 k' t' n' p' (by simpa using h')⟩
            rw [List.length_drop] at h2
            omega

theorem wordsL_word (l : List UInt8) (x : Wd) (h : x ∈ wordsL l) : ∃ k t n, ∃ p : Nat, x = .word k t n p := by
  unfold wordsL at h
  split at h
  · rename_i h0
    have key : ∀ (ts : List Wd) (k : Nat), errL k ts = 0 → (∀ e, Wd.bad e ∈ ts → e ≠ 0) → ∀ x ∈ ts, ∃ k t n, ∃ p : Nat, x = .word k t n p := by
      intro ts
      induction ts with
      | nil => intro _ _ _ x hx; cases hx
      | cons y r ih =>
        intro k hk hb x hx
        cases y with
        | bad e =>
          simp only [errL] at hk
          exact absurd hk (hb e (List.mem_cons_self ..))
        | word k0 t0 n0 p0 =>
          simp only [errL] at hk
          split at hk
          · cases hk
          · rcases List.mem_cons.1 hx with rfl | hx
            · exact ⟨k0, t0, n0, p0, rfl⟩
            · exact ih _ hk (fun e he => hb e (List.mem_cons_of_mem _ he)) x hx
    exact key _ 0 h0 (fun e he => by rcases bad_mem he with rfl | rfl <;> decide) x h
  · cases h
theorem wordsL_len (l : List UInt8) : (wordsL l).length ≤ 500 := by
  unfold wordsL
  split
  · rename_i h0
    have key : ∀ (ts : List Wd) (k : Nat), k ≤ 500 → errL k ts = 0 → (∀ e, Wd.bad e ∈ ts → e ≠ 0) → k + ts.length ≤ 500 := by
      intro ts
      induction ts with
      | nil => intro k hk _ _; simpa using hk
      | cons y r ih =>
        intro k hk h hb
        cases y with
        | bad e =>
          simp only [errL] at h
          exact absurd h (hb e (List.mem_cons_self ..))
        | word k0 t0 n0 p0 =>
          simp only [errL] at h
          split at h
          · cases h
          · have := ih (k + 1) (by omega) h fun e he => hb e (List.mem_cons_of_mem _ he)
            simp; omega
    have := key _ 0 (by decide) h0 (fun e he => by rcases bad_mem he with rfl | rfl <;> decide)
    omega
  · simp
theorem wordsP_len (s : ByteArray) : (wordsP s).length ≤ 500 := by
  rw [wordsP, List.length_map]; exact wordsL_len _
theorem wordsP_at {s : ByteArray} {i : Nat} {w : Pw} (h : (wordsP s)[i]? = some w) : ∃ k t n, ∃ p : Nat, (cutL s.data.toList)[i]? = some (.word k t n p) ∧ w = pwOf (.word k t n p) ∧ w.p = p := by
  rw [wordsP, List.getElem?_map] at h
  obtain ⟨x, hx, rfl⟩ := Option.map_eq_some_iff.1 h
  obtain ⟨k, t, n, p, rfl⟩ := wordsL_word _ x (List.mem_of_getElem? hx)
  refine ⟨k, t, n, p, ?_, rfl, rfl⟩
  unfold wordsL at hx
  split at hx
  · exact hx
  · simp at hx
theorem data_size (s : ByteArray) : s.data.toList.length = s.size := Array.length_toList ..
theorem endP_facts (s : ByteArray) (i : Nat) (w : Pw) (h : (wordsP s)[i]? = some w) : 0 ≤ w.p ∧ w.p ≤ endP' s i ∧ endP' s i ≤ s.size := by
  obtain ⟨k, t, n, p, hc, _, hp⟩ := wordsP_at h
  have h1 := toks_place _ _ _ i k t n p hc
  have hz := data_size s
  unfold endP'
  split
  · rename_i w' h'
    obtain ⟨k', t', n', p', hc', _, hp'⟩ := wordsP_at h'
    have h2 := toks_place _ _ _ (i + 1) k' t' n' p' hc'
    have h3 := h1.2.2 k' t' n' p' hc'
    rw [hp, hp']
    omega
  · rw [hp]; omega
theorem endP_next (s : ByteArray) (i : Nat) (w : Pw) (h : (wordsP s)[i + 1]? = some w) : w.p = endP' s i := by
  obtain ⟨k, t, n, p, hc, _, hp⟩ := wordsP_at h
  unfold endP'
  rw [h]
  simp only [hp]
  omega
theorem endP_last (s : ByteArray) (i : Nat) (h : i + 1 = (wordsP s).length) : endP' s i = s.size := by
  unfold endP'
  rw [List.getElem?_eq_none (by omega)]
/-- The cells of the words that lie in memory. -/
theorem cells_wordsP (s : ByteArray) (j : Nat) (w : Pw) (h : (wordsP s)[j]? = some w) (i : Nat) (u : Value) (hu : w.cs[i]? = some u) : (cellsW (wordsL s.data.toList))[j * 4 + i]? = some u := by
  have h4 : i < 4 := by have := (Array.getElem?_eq_some_iff.1 hu).1; simpa using this
  have key : ∀ (ts : List Wd), (∀ x ∈ ts, ∃ k t n, ∃ p : Nat, x = .word k t n p ∧ t.length ≤ maxLen) → ∀ (j : Nat) w, (ts.map pwOf)[j]? = some w → w.cs[i]? = some u → (cellsW ts)[j * 4 + i]? = some u := by
    intro ts
    induction ts with
    | nil => intro _ j w h _; simp at h
    | cons y r ih =>
      intro hall j w h hu
      obtain ⟨k, t, n, p, rfl, ht⟩ := hall y (List.mem_cons_self ..)
      have e : cellsW (.word k t n p :: r) = encC (.word k t n p) ++ cellsW r := by simp [cellsW]
      rw [e]
      cases j with
      | zero =>
        simp at h; subst h
        rw [List.getElem?_append_left (by simp [encC]; omega)]
        simp only [pwOf, dif_pos ht] at hu
        simpa [encC] using hu
      | succ j =>
        rw [List.getElem?_append_right (by simp [encC]; omega)]
        have := ih (fun x hx => hall x (List.mem_cons_of_mem _ hx)) j w (by simpa using h) hu
        rw [← this]
        congr 1
        simp [encC]; omega
  refine key _ (fun x hx => ?_) j w h hu
  obtain ⟨k, t, n, p, rfl⟩ := wordsL_word _ x hx
  refine ⟨k, t, n, p, rfl, ?_⟩
  have : Wd.word k t n p ∈ cutL s.data.toList := by
    unfold wordsL at hx
    split at hx
    · exact hx
    · cases hx
  have := toks_t _ _ _ _ this k t n p rfl
  unfold maxLen; omega

end Go.Proofs.YtmhpakhnclkenaaGreatDoor
