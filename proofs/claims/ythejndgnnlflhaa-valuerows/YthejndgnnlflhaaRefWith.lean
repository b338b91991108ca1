/-
  What the document's With answers: for every row of texts and every text, in whatever world: a row that holds the row's texts, and the text at its place, once; nothing that lay is turned.
-/
import Derived.Test.YthejndgnnlflhaaRefRows
import Derived.Deep.RegionLaw
import Derived.Deep.AppendLies
namespace Go.Proofs.Ythejndgnnlflhaa
open Go.RowKit

/-- An append, as one step of a region that draws its order: nothing may be appended, too. -/
theorem step_own {P : Program} (w : World) {ops : Array Oper} {o : Oper} {a : Act} {K : Act → World → Prop} {Q : Exit → Act → World → Prop} {E : Prop} (hgd : o.guard = none) (s x : Operand) (t : TypeId)
    (ho : o.op = .call { callee := .builtin .append, args := #[s, x], argTypes := #[t, t] })
    (base : Nat) (e : TypeId) (i : TypeInfo) (z : Value) (size bytes : Nat) (ht : P.underlying t = some (.slice e)) (hi : P.info? e = some i) (hz : i.zero = some z)
    (hsize : i.size = size) (hby : i.bytes = bytes) (hzs : z.cells.size = size) (hsz : 0 < size)
    (v : Value) (n : Nat) (xs : List Value) (hs : a.eval s = v) (hown : w.ownsRow base e size v n xs)
    (ad : Addr) (m c : Nat) (news : List Value) (hx : a.eval x = .slice (some ad) m c) (hl : news.length = m * size) (hnews : ∀ j u, news[j]? = some u → w.cell? (ad.add j) = some u) (h1 : ∀ u ∈ news, u.oneCell' = true)
    (h63 : n + m ≤ maxLen) (hbytes : (n + m) * bytes ≤ 140737488355328) (hbase : base ≤ w.heap.size)
    (h : ∀ v' w', w'.ownsRow base e size v' (n + m) (xs ++ news) → w.grownBy w' v.ownBlock → K (a.put o.dst v') w') :
    if Region.wanted o (yielded ops a.tmps) = true then Oper.wp P o a w K Q else E := by
  have hw : Region.wanted o (yielded ops a.tmps) = true := by simp [Region.wanted, hgd]
  rw [if_pos hw]
  obtain ⟨v', w', hr, h2, h3, _, _⟩ := run_append_own_at (P := P) w base t o.type e i z size bytes ht hi hz hsize hby hzs hsz v n xs hown ad m c news hl hnews h1 h63 hbytes hbase
  unfold Oper.wp execOp
  simp only [ho, resolve, invoke, builtin, Sem.run_bind, Sem.run_pure, Result.andThen_ok, List.map_toArray, List.map_cons, List.map_nil, hs, hx, hr]
  exact h v' w' h2 h3

/-- The cells of a part of a row, as an append asks for them. -/
theorem news_of {W : World} {b off : Nat} (ss : List ByteArray) (hc : ∀ j, j < ss.length → W.cell? ⟨b, off + j, none⟩ = some (.string (ss[j]?.getD ByteArray.empty))) (k m : Nat) :
    ∀ j u, (((ss.drop k).take m).map Value.string)[j]? = some u → W.cell? ((⟨b, off + k, none⟩ : Addr).add j) = some u := by
  intro j u hu
  have hadd : (⟨b, off + k, none⟩ : Addr).add j = ⟨b, off + k + j, none⟩ := by unfold Addr.add; split <;> simp_all
  rw [hadd]
  simp only [List.getElem?_map, Option.map_eq_some_iff] at hu
  obtain ⟨y, hy, rfl⟩ := hu
  rw [List.getElem?_take] at hy
  split at hy
  · rw [List.getElem?_drop] at hy
    have hlt : k + j < ss.length := (List.getElem?_eq_some_iff.1 hy).1
    rw [Nat.add_assoc, hc (k + j) hlt, hy]
    rfl
  · cases hy

theorem strs_of_owns {W : World} {base n : Nat} {v : Value} {ss : List ByteArray} (h : W.ownsRow base 9 1 v n (ss.map Value.string)) : Strs W.heap.size W v ss := by
  have hn : ss.length = n := by have := h.1; simpa using this
  rcases h.2 with ⟨rfl, h0⟩ | ⟨g, cap, cur, rfl, _, hg, _, _, _, htake⟩
  · exact .inl ⟨_, _, rfl, List.length_eq_zero_iff.1 (by omega)⟩
  · refine .inr ⟨g, 0, cap, by rw [hn], (Array.getElem?_eq_some_iff.1 hg).1, fun j hj => ?_⟩
    have e2 : (cur.toList.take (n * 1))[j]? = cur[j]? := by rw [List.getElem?_take, if_pos (by omega), Array.getElem?_toList]
    rw [htake] at e2
    simp only [Nat.zero_add, World.cell?, hg]
    simp at e2
    simp [← e2, hj]

theorem oneCell_strs (l : List ByteArray) : ∀ u ∈ l.map Value.string, u.oneCell' = true := by
  intro u hu
  obtain ⟨x, _, rfl⟩ := List.mem_map.1 hu
  rfl

theorem own_base {W : World} {base e size n : Nat} {v : Value} {xs : List Value} (h : W.ownsRow base e size v n xs) (j : Nat) (hj : v.ownBlock = some j) : base ≤ j := by
  rcases h.2 with ⟨rfl, _⟩ | ⟨g, cap, cur, rfl, hb, _⟩
  · simp [Value.ownBlock] at hj
  · obtain rfl : g = j := by simpa [Value.ownBlock] using hj
    exact hb

set_option maxHeartbeats 2000000 in
theorem refWith20 (a : Option Addr) (len cap : Nat) (x : ByteArray) (ss : List ByteArray) (hreach : ss.length ≤ 100) (w : World) (hI : Strs w.heap.size w (.slice a len cap) ss) (hcap : len ≤ cap) :
    Calls Try.prog 20 #[.slice a len cap, .string x] w fun e w' => ∃ a' len' cap', e = .returned (.slice a' len' cap') ∧ Strs w'.heap.size w' (.slice a' len' cap') (ins x ss) ∧ Below w.heap.size w w' := by
  obtain ⟨i0, hi, hz0, hz1, hz2⟩ := info_parts info9
  have hlen := hI.len
  have hlb : (len : Int) ≤ 100 := by omega
  have HI := hide hI
  have HL := hide hlen
  clear hI hlen
  go_enter Try.func20, Try.ntmps20
  go_wp2
  go_loop [5] (fun i => ∃ k : Nat, k ≤ len ∧ i = .int .i64 k ∧ Hid (∀ j, j < k → lessB x (ss[j]?.getD ByteArray.empty) = false ∧ eqB x (ss[j]?.getD ByteArray.empty) = false)) (fun i => len - (intOf i).toNat)
  case atStart => exact ⟨0, Nat.zero_le _, rfl, hide (fun j hj => by omega)⟩
  case round =>
    obtain ⟨k, hk, rfl, hpre⟩ := hrel
    by_cases hlt : k < len
    · have hll := unhide HL
      obtain ⟨b, off, rfl, hlx, hb, hc⟩ := (unhide HI).cellAt (by omega)
      clear hlx
      have hc1 := hc k (by omega)
      have Hat := hide (ins_at x ss k (by omega) (unhide hpre))
      have Hc := hide hc
      clear hc hll
      have hk1 : (k : Int) < len := by omega
      have hk2 : (0 : Int) ≤ k := by omega
      cases hq : eqB x (ss[k]?.getD ByteArray.empty)
      · cases hl : lessB x (ss[k]?.getD ByteArray.empty)
        · have Hn := hide (show ∀ j, j < k + 1 → lessB x (ss[j]?.getD ByteArray.empty) = false ∧ eqB x (ss[j]?.getD ByteArray.empty) = false by
            intro j hj
            by_cases e : j = k
            · subst e; exact ⟨hl, hq⟩
            · exact unhide hpre j (by omega))
          clear Hat
          generalize ss[k]?.getD ByteArray.empty = y at *
          have hq1 : (y.toList == x.toList) = false := by rw [← hq]; unfold eqB; exact BEq.comm
          have hl1 : Op.bytesLess y.toList x.toList = true := less_total hl (fun e => by rw [(eqB_iff x y).2 e] at hq; cases hq)
          clear hq hl
          go_wp2
          go_round
          case rel => exact ⟨k + 1, by omega, by go_num, Hn⟩
          case measure => simp [intOf]; omega
        · have e := (unhide Hat).2 hl
          have He := hide e
          have hll := unhide HL
          have Hnews1 := hide (fun (W : World) (hB : Below w.heap.size w W) => news_of (off := off) (W := W) ss (fun j hj => (hB.cell (p := ⟨b, off + j, none⟩) hb).trans (unhide Hc j hj)) 0 k)
          have Hnews2 := hide (fun (W : World) (hB : Below w.heap.size w W) => news_of (off := off) (W := W) ss (fun j hj => (hB.cell (p := ⟨b, off + j, none⟩) hb).trans (unhide Hc j hj)) k (len - k))
          have hl1 : (((ss.drop 0).take k).map Value.string).length = k * 1 := by simp; omega
          have hl2 : (((ss.drop k).take (len - k)).map Value.string).length = (len - k) * 1 := by simp; omega
          have Hl1 := hide hl1
          have Hl2 := hide hl2
          clear e hll hl1 hl2 Hat hpre
          generalize ss[k]?.getD ByteArray.empty = y at *
          have hq1 : (y.toList == x.toList) = false := by rw [← hq]; unfold eqB; exact BEq.comm
          have hl1 : Op.bytesLess y.toList x.toList = false := by
            cases h : Op.bytesLess y.toList x.toList
            · rfl
            · have := less_trans (x := x) (y := y) (z := x) hl h
              rw [less_irrefl] at this; cases this
          clear hq hl
          have hk3 : (k : Int) ≤ cap := by omega
          have hkc : ¬ cap = k := by omega
          go_wp2
          go_region_law (first
            | (refine step_own _ (by rfl) (.const (.slice none 0 0)) (.tmp 27) 30 (by rfl) w.heap.size 9 i0 (.string ⟨#[]⟩) 1 16 Try.underlying30 hi hz0 hz1 hz2 (by rfl) (by decide) _ 0 [] (by rfl) (World.ownsRow_nil _ _ _ _) ⟨b, off, none⟩ k cap _ (by rfl) (unhide Hl1) (unhide Hnews1 _ (by first | exact (Below.refl _ _).drew | exact (Below.refl _ _).drew.alloc (Nat.le_refl _) _)) (oneCell_strs _) (by unfold maxLen; omega) (by omega) (by first | exact Nat.le_refl _ | (simp; done)) ?_; intro v1 w1 hown1 hgrow1; simp only [Nat.zero_add, List.nil_append] at hown1; have bel1 : Below w.heap.size w w1 := by first | exact (Below.refl _ _).drew.grown hgrow1 (Nat.le_refl _) (fun j e => by cases e) | exact ((Below.refl _ _).drew.alloc (Nat.le_refl _) _).grown hgrow1 (by simp) (fun j e => by cases e))
            | (refine step_own _ (by rfl) (.tmp 28) (.tmp 30) 30 (by rfl) w.heap.size 9 i0 (.string ⟨#[]⟩) 1 16 Try.underlying30 hi hz0 hz1 hz2 (by rfl) (by decide) _ _ _ (by rfl) (by exact hown1.alloc _) ⟨w1.heap.size, 0, none⟩ 1 1 [.string x] (by rfl) (by rfl) (by exact cell_one_new _ _ _) (by simp [Value.oneCell']) (by unfold maxLen; omega) (by omega) (by have := bel1.size; simp; omega) ?_; intro v2 w2 hown2 hgrow2; have bel2 : Below w.heap.size w w2 := (bel1.alloc bel1.size _).grown hgrow2 (by have := bel1.size; simp; omega) (fun j e => own_base hown1 j e))
            | (refine step_own _ (by rfl) (.tmp 28) (.tmp 30) 30 (by rfl) w.heap.size 9 i0 (.string ⟨#[]⟩) 1 16 Try.underlying30 hi hz0 hz1 hz2 (by rfl) (by decide) _ _ _ (by rfl) (by exact hown1) ⟨w.heap.size, 0, none⟩ 1 1 [.string x] (by rfl) (by rfl) (by exact World.news_of_block (cs := #[.string x]) ((hgrow1.block w.heap.size (by simp) (by simp [Value.ownBlock])).trans (World.alloc_heap_new w.drew _))) (by simp [Value.oneCell']) (by unfold maxLen; omega) (by omega) (by exact bel1.size) ?_; intro v2 w2 hown2 hgrow2; have bel2 : Below w.heap.size w w2 := bel1.grown hgrow2 bel1.size (fun j e => own_base hown1 j e))
            | (refine step_own _ (by rfl) (.tmp 31) (.tmp 34) 30 (by rfl) w.heap.size 9 i0 (.string ⟨#[]⟩) 1 16 Try.underlying30 hi hz0 hz1 hz2 (by rfl) (by decide) _ _ _ (by rfl) (by exact hown2) ⟨b, off + k, none⟩ (len - k) (cap - k) _ (by rfl) (unhide Hl2) (unhide Hnews2 _ bel2) (oneCell_strs _) (by unfold maxLen; omega) (by omega) (by exact bel2.size) ?_; intro v3 w3 hown3 hgrow3; have bel3 : Below w.heap.size w w3 := bel2.grown hgrow3 bel2.size (fun j e => own_base hown2 j e)))
          all_goals
            have e3 : List.map Value.string (List.take k (List.drop 0 ss)) ++ [Value.string x] ++ List.map Value.string (List.take (len - k) (List.drop k ss)) = (ss.take k ++ [x] ++ ss.drop k).map Value.string := by
              rw [List.drop_zero, List.take_of_length_le (show (ss.drop k).length ≤ len - k by have := unhide HL; simp; omega)]; simp
            rw [e3] at hown3
            have Hst := hide (strs_of_owns hown3)
            obtain ⟨g', cap', rfl⟩ : ∃ g c, v3 = .slice (some ⟨g, 0, none⟩) (k + 1 + (len - k)) c := by
              rcases hown3.2 with ⟨_, h0⟩ | ⟨g, c, _, h0, _⟩
              · omega
              · exact ⟨g, c, h0⟩
            clear hown3 e3
            go_wp2
            go_ret
            exact ⟨_, _, _, rfl, by rw [unhide He]; exact unhide Hst, bel3⟩
      · have e : ins x ss = ss := (unhide Hat).1 hq
        have hq1 : ((ss[k]?.getD ByteArray.empty).toList == x.toList) = true := by rw [← hq]; unfold eqB; exact BEq.comm
        have He := hide e
        clear e hq Hat
        generalize ss[k]?.getD ByteArray.empty = y at *
        go_wp2
        go_ret
        exact ⟨_, _, _, rfl, by rw [unhide He]; exact unhide HI, Below.refl _ _⟩
    · have e : ins x ss = ss ++ [x] := ins_end x ss (fun j hj => unhide hpre j (by have := unhide HL; omega))
      have He := hide e
      have hk1 : ¬ (k : Int) < len := by omega
      clear e
      rcases unhide HI with ⟨ae, ce, e0, e1⟩ | ⟨b, off, c, e0, hb, hc⟩
      · simp only [Value.slice.injEq] at e0
        obtain ⟨rfl, rfl, rfl⟩ := e0
        subst e1
        cases a with
        | none =>
            go_wp2_with (at_builtin; refine wpList_append_own _ rfl (.tmp 37) (.tmp 39) 30 rfl w.heap.size 9 i0 (.string ⟨#[]⟩) 1 16 Try.underlying30 hi hz0 hz1 hz2 rfl (by decide) _ 0 [] rfl (World.ownsRow_nil _ _ _ _) ⟨w.heap.size, 0, none⟩ 1 1 [.string x] rfl rfl (cell_one_new _ _ _) (by simp [Value.oneCell']) (by unfold maxLen; omega) (by omega) (by simp) ?_; intro v2 w2 hown2 hgrow2 _; obtain ⟨g', cap', rfl⟩ := ownsRow_succ hown2)
            go_ret
            refine ⟨_, _, _, rfl, ?_, ?_⟩
            · rw [unhide He]
              exact strs_of_owns (ss := [x]) hown2
            · exact ((Below.refl _ _).alloc (Nat.le_refl _) _).grown hgrow2 (by simp) (fun j e => by cases e)
        | some ad =>
            go_wp2_with (first
              | (at_builtin; refine wpList_append_own _ rfl (.const (.slice none 0 0)) (.tmp 36) 30 rfl w.heap.size 9 i0 (.string ⟨#[]⟩) 1 16 Try.underlying30 hi hz0 hz1 hz2 rfl (by decide) _ 0 [] rfl (World.ownsRow_nil _ _ _ _) ad 0 cap [] rfl rfl (by simp) (by simp) (by unfold maxLen; omega) (by omega) (Nat.le_refl _) ?_; intro v1 w1 hown1 hgrow1 _; simp only [Nat.zero_add, List.nil_append] at hown1)
              | (at_builtin; refine wpList_append_own _ rfl (.tmp 37) (.tmp 39) 30 rfl w.heap.size 9 i0 (.string ⟨#[]⟩) 1 16 Try.underlying30 hi hz0 hz1 hz2 rfl (by decide) _ _ _ rfl (hown1.alloc _) ⟨w1.heap.size, 0, none⟩ 1 1 [.string x] rfl rfl (cell_one_new _ _ _) (by simp [Value.oneCell']) (by unfold maxLen; omega) (by omega) (by have := hgrow1.size; simp; omega) ?_; intro v2 w2 hown2 hgrow2 _; simp only [List.nil_append] at hown2; obtain ⟨g', cap', rfl⟩ := ownsRow_succ hown2))
            go_ret
            have b1 : Below w.heap.size w w1 := (Below.refl _ _).grown hgrow1 (Nat.le_refl _) (fun j e => by cases e)
            have b2 := (b1.alloc b1.size (.cells #[.string x] 9)).grown hgrow2 (by have := b1.size; simp; omega) (fun j e => own_base hown1 j e)
            exact ⟨_, _, _, rfl, by rw [unhide He]; exact strs_of_owns (ss := [x]) hown2, b2⟩
      · simp only [Value.slice.injEq] at e0
        obtain ⟨rfl, e1, rfl⟩ := e0
        have hnews := hide (news_of (off := off) ss hc 0 len)
        have hcc := hide hc
        clear hc
        have hl0 : (((ss.drop 0).take len).map Value.string).length = len * 1 := by simp; omega
        have E1 := hide e1
        clear e1
        go_wp2_with (first
          | (at_builtin; refine wpList_append_own _ rfl (.const (.slice none 0 0)) (.tmp 36) 30 rfl w.heap.size 9 i0 (.string ⟨#[]⟩) 1 16 Try.underlying30 hi hz0 hz1 hz2 rfl (by decide) _ 0 [] rfl (World.ownsRow_nil _ _ _ _) ⟨b, off, none⟩ len cap _ rfl hl0 (unhide hnews) (oneCell_strs _) (by unfold maxLen; omega) (by omega) (Nat.le_refl _) ?_; intro v1 w1 hown1 hgrow1 _; simp only [Nat.zero_add, List.nil_append] at hown1)
          | (at_builtin; refine wpList_append_own _ rfl (.tmp 37) (.tmp 39) 30 rfl w.heap.size 9 i0 (.string ⟨#[]⟩) 1 16 Try.underlying30 hi hz0 hz1 hz2 rfl (by decide) _ _ _ rfl (hown1.alloc _) ⟨w1.heap.size, 0, none⟩ 1 1 [.string x] rfl rfl (cell_one_new _ _ _) (by simp [Value.oneCell']) (by unfold maxLen; omega) (by omega) (by have := hgrow1.size; simp; omega) ?_; intro v2 w2 hown2 hgrow2 _; obtain ⟨g', cap', rfl⟩ := ownsRow_succ hown2))
        go_ret
        have b1 : Below w.heap.size w w1 := (Below.refl _ _).grown hgrow1 (Nat.le_refl _) (fun j e => by cases e)
        have b2 := (b1.alloc b1.size (.cells #[.string x] 9)).grown hgrow2 (by have := b1.size; simp; omega) (fun j e => own_base hown1 j e)
        have e3 : List.map Value.string (List.take len (List.drop 0 ss)) ++ [Value.string x] = (ss ++ [x]).map Value.string := by
          rw [List.drop_zero, List.take_of_length_le (by have := unhide E1; omega)]; simp
        rw [e3] at hown2
        exact ⟨_, _, _, rfl, by rw [unhide He]; exact strs_of_owns hown2, b2⟩

end Go.Proofs.Ythejndgnnlflhaa
