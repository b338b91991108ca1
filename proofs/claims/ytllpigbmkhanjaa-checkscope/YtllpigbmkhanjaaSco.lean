/-
  CheckScope's walk.
-/
import Derived.Test.YtllpigbmkhanjaaPtRow
import Derived.Deep.CutRange
namespace Go.Proofs.Ytllpigbmkhanjaa
open Go.RowKit Go.Shelf

attribute [local go_sem] Oper.semAt_some

theorem conv1 (W : World) (c : Int) : (convert 49 9 (.slice (some ⟨W.heap.size, 0, none⟩) 1 1)).run Try.prog (W.alloc (.cells #[.int .u8 c] 5)) = .ok (.string (strOfNums [c])) (W.alloc (.cells #[.int .u8 c] 5)) :=
  run_convert_bytes_arg _ 49 5 Try.underlying49 Try.underlying5 W.heap.size 0 1 1 [c] rfl (fun i hi => by
    have : i = 0 := by omega
    subst this
    simp) 9 Try.underlying9
def t2 (c d : UInt8) : Txt := ⟨⟨#[c, d]⟩, show 2 ≤ maxLen by decide⟩
def alS (i : Nat) : Txt := t2 101 (UInt8.ofNat (97 + i))
theorem str_e (i : Nat) : (⟨#[101]⟩ : ByteArray) ++ strOfNums [(97 : Int) + (i : Int)] = (alS i).1 := by
  have : ((97 : Int) + (i : Int)).toNat = 97 + i := by omega
  apply ByteArray.ext
  simp [alS, t2, strOfNums, ByteArray.data_append, this]
def elS (nt : Bool) (i : Nat) : Em := ⟨alS i, [tk [116]], false, nt && decide (i = 1), e0⟩
def esS (nt : Bool) (k : Nat) : List Em := (List.range k).map (elS nt)
def esC (nt : Bool) (k i j : Nat) : List Em := (esS nt k).set i ⟨alS i, [tk [116]], false, nt && decide (i = 1), fieldT (alS j) (tk [98])⟩
def goodS (nt : Bool) (i j : Nat) : Bool := decide (j = i) || (decide (j < i) && !(nt && decide (j = 1)))
theorem TyIn.cond {W : World} {e : Em} {p : Pl} (h : TyIn W (e, p)) (d : Dat) : TyIn W (⟨e.al, e.ts, e.pl, e.nt, .mk d []⟩, p) := ⟨rfl, h.2.1, h.2.2⟩
/-- An element's condition stored. -/
theorem Rw.cond {base g c : Nat} {W : World} {l : List (Em × Pl)} (h : Rw base W (.slice (some ⟨g, 0, none⟩) l.length c) l) {j : Nat} {x : Em × Pl} (hx : l[j]? = some x) (d : Dat) (W' : World)
    (hW : W' = ((((((W.setCell ⟨g, j * 11 + 4, none⟩ (.int .i64 d.op)).setCell ⟨g, j * 11 + 5, none⟩ (.int .i64 d.k)).setCell ⟨g, j * 11 + 6, none⟩ (.int .i64 d.n)).setCell ⟨g, j * 11 + 7, none⟩ (.string d.s.1)).setCell ⟨g, j * 11 + 8, none⟩ (.string d.al.1)).setCell ⟨g, j * 11 + 9, none⟩ (.string d.fd.1)).setCell ⟨g, j * 11 + 10, none⟩ (.slice none 0 0)) :
    Rw base W' (.slice (some ⟨g, 0, none⟩) l.length c) (l.set j (⟨x.1.al, x.1.ts, x.1.pl, x.1.nt, .mk d []⟩, ⟨x.2.ta, x.2.tc, none, 0⟩)) := by
  subst hW
  have hT := h.ty x (List.mem_of_getElem? hx)
  have hj : j < l.length := (List.getElem?_eq_some_iff.1 hx).1
  obtain ⟨⟨al, ts, pl, nt, ⟨⟨o, k, n, s, a, f⟩, ks⟩⟩, ⟨ta, tc, ka, kc⟩⟩ := x
  obtain rfl : ks = [] := hT.1
  have gt : ∀ (l : List (Em × Pl)) y, j < l.length → (l.set j y)[j]? = some y := fun l y h => by simp [h]
  have step : ∀ {W0 : World} {d0 : Dat} {p0 : Pl} (h0 : Rw base W0 (.slice (some ⟨g, 0, none⟩) l.length c) (l.set j (⟨al, ts, pl, nt, .mk d0 []⟩, p0))) (d1 : Dat) (p1 : Pl) (q : Nat) (u : Value) (hq : q < 11)
      (hs : (Em.cs ⟨al, ts, pl, nt, .mk d1 []⟩ p1).toList = (Em.cs ⟨al, ts, pl, nt, .mk d0 []⟩ p0).toList.set q u) (hp : p1.ta = p0.ta), Rw base (W0.setCell ⟨g, j * 11 + q, none⟩ u) (.slice (some ⟨g, 0, none⟩) l.length c) (l.set j (⟨al, ts, pl, nt, .mk d1 []⟩, p1)) := by
    intro W0 d0 p0 h0 d1 p1 q u hq hs hp
    have hl : (l.set j (⟨al, ts, pl, nt, .mk d0 []⟩, p0)).length = l.length := List.length_set
    have h0' := h0
    rw [← hl] at h0'
    have hy : TyIn W0 (⟨al, ts, pl, nt, .mk d1 []⟩, p1) := by
      obtain ⟨-, t2, t3⟩ := h0.ty _ (List.mem_of_getElem? (gt l _ hj))
      exact ⟨rfl, t2, by rw [hp]; exact t3⟩
    have := h0'.store (gt l (⟨al, ts, pl, nt, .mk d0 []⟩, p0) hj) (⟨al, ts, pl, nt, .mk d1 []⟩, p1) q u hq hs hy
    rw [hl, List.set_set] at this
    exact this
  have h0 : Rw base W (.slice (some ⟨g, 0, none⟩) l.length c) (l.set j (⟨al, ts, pl, nt, .mk ⟨o, k, n, s, a, f⟩ []⟩, ⟨ta, tc, ka, kc⟩)) := by
    have : l.set j (⟨al, ts, pl, nt, .mk ⟨o, k, n, s, a, f⟩ []⟩, ⟨ta, tc, ka, kc⟩) = l := by
      apply List.ext_getElem?
      intro i
      rw [List.getElem?_set]
      split
      · rename_i e; subst e; exact hx.symm
      · rfl
    rw [this]; exact h
  have h1 := step h0 ⟨d.op, k, n, s, a, f⟩ ⟨ta, tc, ka, kc⟩ 4 (.int .i64 d.op) (by decide) rfl rfl
  have h2 := step h1 ⟨d.op, d.k, n, s, a, f⟩ ⟨ta, tc, ka, kc⟩ 5 (.int .i64 d.k) (by decide) rfl rfl
  have h3 := step h2 ⟨d.op, d.k, d.n, s, a, f⟩ ⟨ta, tc, ka, kc⟩ 6 (.int .i64 d.n) (by decide) rfl rfl
  have h4 := step h3 ⟨d.op, d.k, d.n, d.s, a, f⟩ ⟨ta, tc, ka, kc⟩ 7 (.string d.s.1) (by decide) rfl rfl
  have h5 := step h4 ⟨d.op, d.k, d.n, d.s, d.al, f⟩ ⟨ta, tc, ka, kc⟩ 8 (.string d.al.1) (by decide) rfl rfl
  have h6 := step h5 ⟨d.op, d.k, d.n, d.s, d.al, d.fd⟩ ⟨ta, tc, ka, kc⟩ 9 (.string d.fd.1) (by decide) rfl rfl
  exact step h6 ⟨d.op, d.k, d.n, d.s, d.al, d.fd⟩ ⟨ta, tc, none, 0⟩ 10 (.slice none 0 0) (by decide) rfl rfl
theorem Rw.condCells {base g c : Nat} {W : World} {l : List (Em × Pl)} (h : Rw base W (.slice (some ⟨g, 0, none⟩) l.length c) l) {j : Nat} {x : Em × Pl} (hx : l[j]? = some x) :
    (∃ v, W.cell? ⟨g, j * 11 + 4, none⟩ = some v) ∧ (∃ v, W.cell? ⟨g, j * 11 + 5, none⟩ = some v) ∧ (∃ v, W.cell? ⟨g, j * 11 + 6, none⟩ = some v) ∧ (∃ v, W.cell? ⟨g, j * 11 + 7, none⟩ = some v) ∧ (∃ v, W.cell? ⟨g, j * 11 + 8, none⟩ = some v) ∧ (∃ v, W.cell? ⟨g, j * 11 + 9, none⟩ = some v) ∧ ∃ v, W.cell? ⟨g, j * 11 + 10, none⟩ = some v := by
  have q : ∀ i (hi : i < 11), ∃ v, W.cell? ⟨g, j * 11 + i, none⟩ = some v := fun i hi => by
    have h1 := newsR_at l j x hx i hi
    have h2 : ∃ u, (x.1.cs x.2)[i]? = some u := ⟨_, Array.getElem?_eq_getElem (by simpa using hi)⟩
    obtain ⟨u, hu⟩ := h2
    have := h.own.cells (g := g) rfl (j * 11 + i) u (h1.trans hu)
    rw [WideShapes.add_plain, Nat.zero_add] at this
    exact ⟨u, this⟩
  exact ⟨q 4 (by decide), q 5 (by decide), q 6 (by decide), q 7 (by decide), q 8 (by decide), q 9 (by decide), q 10 (by decide)⟩
theorem Rw.condFrz {base g n c : Nat} {W : World} {l : List (Em × Pl)} (h : Rw base W (.slice (some ⟨g, 0, none⟩) n c) l) (i : Nat) : W.frozen? ⟨g, i, none⟩ = false := by
  obtain ⟨_, cur, hc⟩ := owns_lt h.own (g := g) rfl
  exact Box.frz (cs := cur) (t := 41) hc i

theorem ptv {es : List Em} {n : Nat} (h : es.length = n) (wi : Int) (nm : Txt) (any : Bool) (a : Option Addr) (c : Nat) : (⟨es, wi, nm, any⟩ : Pt).v a c = .agg #[.slice a n c, .int .i64 wi, .string nm.1, .bool any] := by rw [← h]
set_option maxRecDepth 100000 in
theorem sco_k : ∀ nt : Bool, ∀ k < 6, 3 ≤ k → ∀ i < k, ∀ j < k, chkP baseT ⟨esC nt k i j, 5, t0, false⟩ = if goodS nt i j then 0 else 13 := by decide +kernel

set_option maxRecDepth 100000 in
set_option maxHeartbeats 8000000 in
theorem sco4_walk (n0 n1 n2 : Int) (nt : Bool) (h0 : 0 ≤ n0) (h1 : n0 ≤ 255) (h2 : 0 ≤ n1) (h3 : n1 ≤ 255) (h4 : 0 ≤ n2) (h5 : n2 ≤ 255) (w : World) : Calls Try.prog 4 #[.int .u8 n0, .int .u8 n1, .int .u8 n2, .bool nt] w fun e w' => e = .returned (.bool true) ∧ Below w.heap.size w w' := by
  have cK := hide (known6_c w)
  obtain ⟨k, hk⟩ : ∃ k : Nat, n0 % 3 + 3 = (k : Int) := ⟨(n0 % 3 + 3).toNat, by omega⟩
  have hk3 : 3 ≤ k := by omega
  have hk6 : k < 6 := by omega
  obtain ⟨i, hi⟩ : ∃ i : Nat, n1 % (k : Int) = (i : Int) := ⟨(n1 % (k : Int)).toNat, by have := Int.emod_nonneg n1 (show (k : Int) ≠ 0 by omega); omega⟩
  obtain ⟨j, hj⟩ : ∃ j : Nat, n2 % (k : Int) = (j : Int) := ⟨(n2 % (k : Int)).toNat, by have := Int.emod_nonneg n2 (show (k : Int) ≠ 0 by omega); omega⟩
  have hik : i < k := by have := Int.emod_lt_of_pos n1 (show (0 : Int) < k by omega); omega
  have hjk : j < k := by have := Int.emod_lt_of_pos n2 (show (0 : Int) < k by omega); omega
  obtain ⟨i0, hi0, hz0, hz1, hz2⟩ := info_parts infoE
  replace hi := hide hi
  replace hj := hide hj
  replace hk := hide hk
  go_enter Try.func4, Try.ntmps4
  go_wp2_with fail
  refine (unhide cK).mono ?_
  rintro r w1 ⟨rfl, hb1⟩
  clear cK
  go_upto_region 4 with fail
  rw [unhide hk]
  have hkz : ((k : Int) == 0) = false := by simp; omega
  have hkz2 : ¬ (k : Int) = 0 := by omega
  go_quiet (fail)
  rw [unhide hi, unhide hj]
  obtain ⟨w2, hw2⟩ : ∃ w2, w2 = w1.drewN nq := ⟨_, rfl⟩
  have hb2 : Below w.heap.size w w2 := by rw [hw2]; exact hb1.trans (Box.bd (Below.refl _ _) |>.mono hb1.size)
  rw [← hw2]
  clear hw2
  obtain ⟨Bx, eBx⟩ : ∃ Bx, Bx = w2.heap.size := ⟨_, rfl⟩
  obtain ⟨w3, hw3⟩ : ∃ w3, w3 = w2.alloc (.cells #[.slice none 0 0, .int .i64 5, .string ⟨#[]⟩, .bool false] 48) := ⟨_, rfl⟩
  have b3 : Below w2.heap.size w2 w3 := by rw [hw3]; exact (Below.refl _ _).alloc (Nat.le_refl _) _
  have x3 : Box w3 Bx 48 #[.slice none 0 0, .int .i64 5, .string ⟨#[]⟩, .bool false] := by rw [hw3, eBx]; exact Box.new _ _ _
  have bw3 : Below w.heap.size w w3 := hb2.trans (b3.mono hb2.size)
  have hBx : w.heap.size ≤ Bx := by rw [eBx]; exact hb2.size
  go_upto_region 6 with fail
  rw [← hw3, ← eBx]
  clear hw3 eBx b3 hb2 hb1
  go_wp2_with fail
  go_loopw [13] (fun iv wr => ∃ m : Nat, m ≤ k ∧ iv = .int .i64 m ∧ (∃ v l, Box wr Bx 48 #[v, .int .i64 5, .string ⟨#[]⟩, .bool false] ∧ Hid (Rw (Bx + 1) wr v l ∧ l.map (·.1) = (List.range m).map (elS nt))) ∧ Below w.heap.size w wr) (fun i _ => k - (intOf i).toNat)
  case atStart => exact ⟨0, Nat.zero_le _, rfl, ⟨_, [], x3, hide ⟨Rw.nil _ _, rfl⟩⟩, bw3⟩
  case round =>
    obtain ⟨m, hmk, rfl, ⟨v, l, hx, hR⟩, hb⟩ := hrel
    by_cases hlt : m < k
    · have hlt' : (m : Int) < (k : Int) := by omega
      have hcv := conv1 wr (97 + m)
      obtain ⟨hc0, hc1, hc2, hc3⟩ := hx.four
      have hf0 := hx.frz 0
      have hll := hide (show l.length = m by have := congrArg List.length (unhide hR).2; simpa using this)
      cases nt
      · have hfl := hide (show (false && decide (m = 1)) = false from rfl)
        have eB := hide (show elS false m = ⟨alS m, [tk [116]], false, false, e0⟩ by simp [elS, unhide hfl])
        obtain ⟨u, eu⟩ : ∃ u, u = ((wr.alloc (.cells #[.int .u8 (97 + m)] 5)).alloc (.cells #[.string ⟨#[116]⟩] 9)).alloc (.cells #[.string (alS m).1, .slice (some ⟨wr.heap.size + 1, 0, none⟩) 1 1, .bool false, .bool false, .int .i64 0, .int .i64 0, .int .i64 0, .string ⟨#[]⟩, .string ⟨#[]⟩, .string ⟨#[]⟩, .slice none 0 0] 41) := ⟨_, rfl⟩
        have bu : Below wr.heap.size wr u := by rw [eu]; exact (((Below.refl _ _).alloc (Nat.le_refl _) _).alloc (by simp) _).alloc (by simp; omega) _
        have xt : Box u (wr.heap.size + 1) 9 #[.string ⟨#[116]⟩] := by
          have := (Box.new (wr.alloc (.cells #[.int .u8 (97 + m)] 5)) 9 #[.string ⟨#[116]⟩]).alloc (.cells #[.string (alS m).1, .slice (some ⟨wr.heap.size + 1, 0, none⟩) 1 1, .bool false, .bool false, .int .i64 0, .int .i64 0, .int .i64 0, .string ⟨#[]⟩, .string ⟨#[]⟩, .string ⟨#[]⟩, .slice none 0 0] 41)
          simp only [World.size_alloc] at this
          rw [eu]; exact this
        have xe : Box u (wr.heap.size + 1 + 1) 41 #[.string (alS m).1, .slice (some ⟨wr.heap.size + 1, 0, none⟩) 1 1, .bool false, .bool false, .int .i64 0, .int .i64 0, .int .i64 0, .string ⟨#[]⟩, .string ⟨#[]⟩, .string ⟨#[]⟩, .slice none 0 0] := by
          have := Box.new ((wr.alloc (.cells #[.int .u8 (97 + m)] 5)).alloc (.cells #[.string ⟨#[116]⟩] 9)) 41 #[.string (alS m).1, .slice (some ⟨wr.heap.size + 1, 0, none⟩) 1 1, .bool false, .bool false, .int .i64 0, .int .i64 0, .int .i64 0, .string ⟨#[]⟩, .string ⟨#[]⟩, .string ⟨#[]⟩, .slice none 0 0]
          simp only [World.size_alloc] at this
          rw [eu]; exact this
        have hRu := (unhide hR).1.on bu
        have xu := hx.on bu hx.lt
        have hou := hide (show u.ownsRow (Bx + 1) 41 11 v m (newsR l) by have := hRu.own; rwa [unhide hll] at this)
        have hsz : Bx + 1 ≤ u.heap.size := by have := xu.lt; omega
        replace hRu := hide hRu
        replace eu := hide eu
        obtain ⟨gc0, gc1, gc2, gc3⟩ := xu.four
        have gf0 := xu.frz 0
        go_wp2_with (at_builtin; rw [str_e m, ← unhide eu]; go_must (refine wpList_append_own _ rfl _ _ 42 rfl (Bx + 1) 41 i0 (.agg #[.string ⟨#[]⟩, .slice none 0 0, .bool false, .bool false, .int .i64 0, .int .i64 0, .int .i64 0, .string ⟨#[]⟩, .string ⟨#[]⟩, .string ⟨#[]⟩, .slice none 0 0]) 11 144 Try.underlying42 hi0 hz0 hz1 hz2 rfl (by decide) v m (newsR l) rfl (unhide hou) ⟨wr.heap.size + 1 + 1, 0, none⟩ 1 1 [.string (alS m).1, .slice (some ⟨wr.heap.size + 1, 0, none⟩) 1 1, .bool false, .bool false, .int .i64 0, .int .i64 0, .int .i64 0, .string ⟨#[]⟩, .string ⟨#[]⟩, .string ⟨#[]⟩, .slice none 0 0] rfl rfl (news_box xe) (by simp [Value.oneCell']) (by unfold maxLen; omega) (by omega) hsz ?_); intro v' u5 hown hgrow hwh; obtain ⟨a5, k5, rfl⟩ := owns_slice hown; have c5 : Box u5 Bx 48 #[v, .int .i64 5, .string ⟨#[]⟩, .bool false] := (hgrow.block _ xu.lt (fun e => by have := ((unhide hou).lt _ e.symm).1; omega)).trans xu; obtain ⟨hh0, hh1, hh2, hh3⟩ := c5.four; have hhf := c5.frz 0; replace hown := hide hown; replace hwh := hide hwh; replace hgrow := hide hgrow)
        have hT5 : ∀ x ∈ l ++ [(elS false m, (⟨some ⟨wr.heap.size + 1, 0, none⟩, 1, none, 0⟩ : Pl))], TyIn u5 x := by
          have hgr := fun g e => (owns_lt (unhide hou) (g := g) e).2
          intro x hx'
          rcases List.mem_append.1 hx' with h | h
          · exact ((unhide hRu).ty x h).grown (unhide hgrow) hgr
          · simp only [List.mem_singleton] at h
            subst h
            refine TyIn.grown ⟨rfl, by simp [elS], .inr ⟨_, _, rfl, xt, fun j t ht => ?_⟩⟩ (unhide hgrow) hgr
            match j with
            | 0 => simp [elS] at ht; subst ht; rfl
            | j + 1 => simp [elS] at ht
        have hR5 : Rw (Bx + 1) u5 (.slice a5 (m + 1) k5) (l ++ [(elS false m, (⟨some ⟨wr.heap.size + 1, 0, none⟩, 1, none, 0⟩ : Pl))]) := by
          refine ⟨?_, hT5⟩
          rw [newsR_snoc, List.length_append, unhide hll, unhide eB]
          exact unhide hown
        have hR6 := hR5.box c5 (by decide) (by omega) 0 (.slice a5 (m + 1) k5)
        have b5 : Below w.heap.size w u5 := (hb.trans (bu.mono hb.size)).grown (unhide hgrow) (by have := bu.size; have := hb.size; omega) (fun g e => by have := ((unhide hou).lt g e).1; omega)
        have x6 : Box (u5.setCell ⟨Bx, 0, none⟩ (.slice a5 (m + 1) k5)) Bx 48 #[.slice a5 (m + 1) k5, .int .i64 5, .string ⟨#[]⟩, .bool false] := c5.set 0 _
        have b6 := b5.setCell (p := ⟨Bx, 0, none⟩) hBx (.slice a5 (m + 1) k5)
        have hl6 := hide (show (l ++ [(elS false m, (⟨some ⟨wr.heap.size + 1, 0, none⟩, 1, none, 0⟩ : Pl))]).map (·.1) = (List.range (m + 1)).map (elS false) by rw [List.map_append, (unhide hR).2, List.range_succ, List.map_append]; rfl)
        clear hT5 hR5
        go_roundw
        case rel => exact ⟨m + 1, by omega, by go_num, ⟨_, _, x6, hide ⟨hR6, unhide hl6⟩⟩, b6⟩
        case measure => simp [intOf]; omega
      by_cases p1 : m = 1
      · have hfl := hide (show (true && decide (m = 1)) = true by simp [p1])
        have f1 : ((m : Int) == 1) = true := by simp; omega
        clear p1
        have eB := hide (show elS true m = ⟨alS m, [tk [116]], false, true, e0⟩ by simp [elS, unhide hfl])
        obtain ⟨u, eu⟩ : ∃ u, u = ((wr.alloc (.cells #[.int .u8 (97 + m)] 5)).alloc (.cells #[.string ⟨#[116]⟩] 9)).alloc (.cells #[.string (alS m).1, .slice (some ⟨wr.heap.size + 1, 0, none⟩) 1 1, .bool false, .bool true, .int .i64 0, .int .i64 0, .int .i64 0, .string ⟨#[]⟩, .string ⟨#[]⟩, .string ⟨#[]⟩, .slice none 0 0] 41) := ⟨_, rfl⟩
        have bu : Below wr.heap.size wr u := by rw [eu]; exact (((Below.refl _ _).alloc (Nat.le_refl _) _).alloc (by simp) _).alloc (by simp; omega) _
        have xt : Box u (wr.heap.size + 1) 9 #[.string ⟨#[116]⟩] := by
          have := (Box.new (wr.alloc (.cells #[.int .u8 (97 + m)] 5)) 9 #[.string ⟨#[116]⟩]).alloc (.cells #[.string (alS m).1, .slice (some ⟨wr.heap.size + 1, 0, none⟩) 1 1, .bool false, .bool true, .int .i64 0, .int .i64 0, .int .i64 0, .string ⟨#[]⟩, .string ⟨#[]⟩, .string ⟨#[]⟩, .slice none 0 0] 41)
          simp only [World.size_alloc] at this
          rw [eu]; exact this
        have xe : Box u (wr.heap.size + 1 + 1) 41 #[.string (alS m).1, .slice (some ⟨wr.heap.size + 1, 0, none⟩) 1 1, .bool false, .bool true, .int .i64 0, .int .i64 0, .int .i64 0, .string ⟨#[]⟩, .string ⟨#[]⟩, .string ⟨#[]⟩, .slice none 0 0] := by
          have := Box.new ((wr.alloc (.cells #[.int .u8 (97 + m)] 5)).alloc (.cells #[.string ⟨#[116]⟩] 9)) 41 #[.string (alS m).1, .slice (some ⟨wr.heap.size + 1, 0, none⟩) 1 1, .bool false, .bool true, .int .i64 0, .int .i64 0, .int .i64 0, .string ⟨#[]⟩, .string ⟨#[]⟩, .string ⟨#[]⟩, .slice none 0 0]
          simp only [World.size_alloc] at this
          rw [eu]; exact this
        have hRu := (unhide hR).1.on bu
        have xu := hx.on bu hx.lt
        have hou := hide (show u.ownsRow (Bx + 1) 41 11 v m (newsR l) by have := hRu.own; rwa [unhide hll] at this)
        have hsz : Bx + 1 ≤ u.heap.size := by have := xu.lt; omega
        replace hRu := hide hRu
        replace eu := hide eu
        obtain ⟨gc0, gc1, gc2, gc3⟩ := xu.four
        have gf0 := xu.frz 0
        go_wp2_with (at_builtin; rw [str_e m, ← unhide eu]; go_must (refine wpList_append_own _ rfl _ _ 42 rfl (Bx + 1) 41 i0 (.agg #[.string ⟨#[]⟩, .slice none 0 0, .bool false, .bool false, .int .i64 0, .int .i64 0, .int .i64 0, .string ⟨#[]⟩, .string ⟨#[]⟩, .string ⟨#[]⟩, .slice none 0 0]) 11 144 Try.underlying42 hi0 hz0 hz1 hz2 rfl (by decide) v m (newsR l) rfl (unhide hou) ⟨wr.heap.size + 1 + 1, 0, none⟩ 1 1 [.string (alS m).1, .slice (some ⟨wr.heap.size + 1, 0, none⟩) 1 1, .bool false, .bool true, .int .i64 0, .int .i64 0, .int .i64 0, .string ⟨#[]⟩, .string ⟨#[]⟩, .string ⟨#[]⟩, .slice none 0 0] rfl rfl (news_box xe) (by simp [Value.oneCell']) (by unfold maxLen; omega) (by omega) hsz ?_); intro v' u5 hown hgrow hwh; obtain ⟨a5, k5, rfl⟩ := owns_slice hown; have c5 : Box u5 Bx 48 #[v, .int .i64 5, .string ⟨#[]⟩, .bool false] := (hgrow.block _ xu.lt (fun e => by have := ((unhide hou).lt _ e.symm).1; omega)).trans xu; obtain ⟨hh0, hh1, hh2, hh3⟩ := c5.four; have hhf := c5.frz 0; replace hown := hide hown; replace hwh := hide hwh; replace hgrow := hide hgrow)
        have hT5 : ∀ x ∈ l ++ [(elS true m, (⟨some ⟨wr.heap.size + 1, 0, none⟩, 1, none, 0⟩ : Pl))], TyIn u5 x := by
          have hgr := fun g e => (owns_lt (unhide hou) (g := g) e).2
          intro x hx'
          rcases List.mem_append.1 hx' with h | h
          · exact ((unhide hRu).ty x h).grown (unhide hgrow) hgr
          · simp only [List.mem_singleton] at h
            subst h
            refine TyIn.grown ⟨rfl, by simp [elS], .inr ⟨_, _, rfl, xt, fun j t ht => ?_⟩⟩ (unhide hgrow) hgr
            match j with
            | 0 => simp [elS] at ht; subst ht; rfl
            | j + 1 => simp [elS] at ht
        have hR5 : Rw (Bx + 1) u5 (.slice a5 (m + 1) k5) (l ++ [(elS true m, (⟨some ⟨wr.heap.size + 1, 0, none⟩, 1, none, 0⟩ : Pl))]) := by
          refine ⟨?_, hT5⟩
          rw [newsR_snoc, List.length_append, unhide hll, unhide eB]
          exact unhide hown
        have hR6 := hR5.box c5 (by decide) (by omega) 0 (.slice a5 (m + 1) k5)
        have b5 : Below w.heap.size w u5 := (hb.trans (bu.mono hb.size)).grown (unhide hgrow) (by have := bu.size; have := hb.size; omega) (fun g e => by have := ((unhide hou).lt g e).1; omega)
        have x6 : Box (u5.setCell ⟨Bx, 0, none⟩ (.slice a5 (m + 1) k5)) Bx 48 #[.slice a5 (m + 1) k5, .int .i64 5, .string ⟨#[]⟩, .bool false] := c5.set 0 _
        have b6 := b5.setCell (p := ⟨Bx, 0, none⟩) hBx (.slice a5 (m + 1) k5)
        have hl6 := hide (show (l ++ [(elS true m, (⟨some ⟨wr.heap.size + 1, 0, none⟩, 1, none, 0⟩ : Pl))]).map (·.1) = (List.range (m + 1)).map (elS true) by rw [List.map_append, (unhide hR).2, List.range_succ, List.map_append]; rfl)
        clear hT5 hR5
        go_roundw
        case rel => exact ⟨m + 1, by omega, by go_num, ⟨_, _, x6, hide ⟨hR6, unhide hl6⟩⟩, b6⟩
        case measure => simp [intOf]; omega
      · have hfl := hide (show (true && decide (m = 1)) = false by simp [p1])
        have f1 : ((m : Int) == 1) = false := by simp; omega
        clear p1
        have eB := hide (show elS true m = ⟨alS m, [tk [116]], false, false, e0⟩ by simp [elS, unhide hfl])
        obtain ⟨u, eu⟩ : ∃ u, u = ((wr.alloc (.cells #[.int .u8 (97 + m)] 5)).alloc (.cells #[.string ⟨#[116]⟩] 9)).alloc (.cells #[.string (alS m).1, .slice (some ⟨wr.heap.size + 1, 0, none⟩) 1 1, .bool false, .bool false, .int .i64 0, .int .i64 0, .int .i64 0, .string ⟨#[]⟩, .string ⟨#[]⟩, .string ⟨#[]⟩, .slice none 0 0] 41) := ⟨_, rfl⟩
        have bu : Below wr.heap.size wr u := by rw [eu]; exact (((Below.refl _ _).alloc (Nat.le_refl _) _).alloc (by simp) _).alloc (by simp; omega) _
        have xt : Box u (wr.heap.size + 1) 9 #[.string ⟨#[116]⟩] := by
          have := (Box.new (wr.alloc (.cells #[.int .u8 (97 + m)] 5)) 9 #[.string ⟨#[116]⟩]).alloc (.cells #[.string (alS m).1, .slice (some ⟨wr.heap.size + 1, 0, none⟩) 1 1, .bool false, .bool false, .int .i64 0, .int .i64 0, .int .i64 0, .string ⟨#[]⟩, .string ⟨#[]⟩, .string ⟨#[]⟩, .slice none 0 0] 41)
          simp only [World.size_alloc] at this
          rw [eu]; exact this
        have xe : Box u (wr.heap.size + 1 + 1) 41 #[.string (alS m).1, .slice (some ⟨wr.heap.size + 1, 0, none⟩) 1 1, .bool false, .bool false, .int .i64 0, .int .i64 0, .int .i64 0, .string ⟨#[]⟩, .string ⟨#[]⟩, .string ⟨#[]⟩, .slice none 0 0] := by
          have := Box.new ((wr.alloc (.cells #[.int .u8 (97 + m)] 5)).alloc (.cells #[.string ⟨#[116]⟩] 9)) 41 #[.string (alS m).1, .slice (some ⟨wr.heap.size + 1, 0, none⟩) 1 1, .bool false, .bool false, .int .i64 0, .int .i64 0, .int .i64 0, .string ⟨#[]⟩, .string ⟨#[]⟩, .string ⟨#[]⟩, .slice none 0 0]
          simp only [World.size_alloc] at this
          rw [eu]; exact this
        have hRu := (unhide hR).1.on bu
        have xu := hx.on bu hx.lt
        have hou := hide (show u.ownsRow (Bx + 1) 41 11 v m (newsR l) by have := hRu.own; rwa [unhide hll] at this)
        have hsz : Bx + 1 ≤ u.heap.size := by have := xu.lt; omega
        replace hRu := hide hRu
        replace eu := hide eu
        obtain ⟨gc0, gc1, gc2, gc3⟩ := xu.four
        have gf0 := xu.frz 0
        go_wp2_with (at_builtin; rw [str_e m, ← unhide eu]; go_must (refine wpList_append_own _ rfl _ _ 42 rfl (Bx + 1) 41 i0 (.agg #[.string ⟨#[]⟩, .slice none 0 0, .bool false, .bool false, .int .i64 0, .int .i64 0, .int .i64 0, .string ⟨#[]⟩, .string ⟨#[]⟩, .string ⟨#[]⟩, .slice none 0 0]) 11 144 Try.underlying42 hi0 hz0 hz1 hz2 rfl (by decide) v m (newsR l) rfl (unhide hou) ⟨wr.heap.size + 1 + 1, 0, none⟩ 1 1 [.string (alS m).1, .slice (some ⟨wr.heap.size + 1, 0, none⟩) 1 1, .bool false, .bool false, .int .i64 0, .int .i64 0, .int .i64 0, .string ⟨#[]⟩, .string ⟨#[]⟩, .string ⟨#[]⟩, .slice none 0 0] rfl rfl (news_box xe) (by simp [Value.oneCell']) (by unfold maxLen; omega) (by omega) hsz ?_); intro v' u5 hown hgrow hwh; obtain ⟨a5, k5, rfl⟩ := owns_slice hown; have c5 : Box u5 Bx 48 #[v, .int .i64 5, .string ⟨#[]⟩, .bool false] := (hgrow.block _ xu.lt (fun e => by have := ((unhide hou).lt _ e.symm).1; omega)).trans xu; obtain ⟨hh0, hh1, hh2, hh3⟩ := c5.four; have hhf := c5.frz 0; replace hown := hide hown; replace hwh := hide hwh; replace hgrow := hide hgrow)
        have hT5 : ∀ x ∈ l ++ [(elS true m, (⟨some ⟨wr.heap.size + 1, 0, none⟩, 1, none, 0⟩ : Pl))], TyIn u5 x := by
          have hgr := fun g e => (owns_lt (unhide hou) (g := g) e).2
          intro x hx'
          rcases List.mem_append.1 hx' with h | h
          · exact ((unhide hRu).ty x h).grown (unhide hgrow) hgr
          · simp only [List.mem_singleton] at h
            subst h
            refine TyIn.grown ⟨rfl, by simp [elS], .inr ⟨_, _, rfl, xt, fun j t ht => ?_⟩⟩ (unhide hgrow) hgr
            match j with
            | 0 => simp [elS] at ht; subst ht; rfl
            | j + 1 => simp [elS] at ht
        have hR5 : Rw (Bx + 1) u5 (.slice a5 (m + 1) k5) (l ++ [(elS true m, (⟨some ⟨wr.heap.size + 1, 0, none⟩, 1, none, 0⟩ : Pl))]) := by
          refine ⟨?_, hT5⟩
          rw [newsR_snoc, List.length_append, unhide hll, unhide eB]
          exact unhide hown
        have hR6 := hR5.box c5 (by decide) (by omega) 0 (.slice a5 (m + 1) k5)
        have b5 : Below w.heap.size w u5 := (hb.trans (bu.mono hb.size)).grown (unhide hgrow) (by have := bu.size; have := hb.size; omega) (fun g e => by have := ((unhide hou).lt g e).1; omega)
        have x6 : Box (u5.setCell ⟨Bx, 0, none⟩ (.slice a5 (m + 1) k5)) Bx 48 #[.slice a5 (m + 1) k5, .int .i64 5, .string ⟨#[]⟩, .bool false] := c5.set 0 _
        have b6 := b5.setCell (p := ⟨Bx, 0, none⟩) hBx (.slice a5 (m + 1) k5)
        have hl6 := hide (show (l ++ [(elS true m, (⟨some ⟨wr.heap.size + 1, 0, none⟩, 1, none, 0⟩ : Pl))]).map (·.1) = (List.range (m + 1)).map (elS true) by rw [List.map_append, (unhide hR).2, List.range_succ, List.map_append]; rfl)
        clear hT5 hR5
        go_roundw
        case rel => exact ⟨m + 1, by omega, by go_num, ⟨_, _, x6, hide ⟨hR6, unhide hl6⟩⟩, b6⟩
        case measure => simp [intOf]; omega
    · obtain rfl : m = k := by omega
      obtain ⟨hRw, hlm⟩ := unhide hR
      have hll : l.length = m := by have := congrArg List.length hlm; simpa using this
      obtain ⟨g, c, rfl⟩ : ∃ g c, v = .slice (some ⟨g, 0, none⟩) l.length c := by
        rcases hRw.own.2 with ⟨_, h0⟩ | ⟨g, c, cur, e, _⟩
        · omega
        · exact ⟨g, c, e⟩
      obtain ⟨xi, hxi⟩ : ∃ x, l[i]? = some x := ⟨_, List.getElem?_eq_getElem (by omega)⟩
      obtain ⟨xj, hxj⟩ : ∃ x, l[j]? = some x := ⟨_, List.getElem?_eq_getElem (by omega)⟩
      have exi : xi.1 = elS nt i := by
        have := congrArg (fun q => q[i]?) hlm
        simpa [hxi, List.getElem?_range hik] using this
      have exj : xj.1 = elS nt j := by
        have := congrArg (fun q => q[j]?) hlm
        simpa [hxj, List.getElem?_range hjk] using this
      have haj : wr.cell? ⟨g, j * 11, none⟩ = some (.string (alS j).1) := by
        have := hRw.own.cells (g := g) rfl (j * 11 + 0) _ ((newsR_at l j xj hxj 0 (by decide)).trans rfl)
        rw [WideShapes.add_plain, Nat.zero_add, Nat.add_zero, exj] at this
        exact this
      have hgl : g < wr.heap.size := by have := (hRw.own.lt g rfl).2; exact this
      have hgB : Bx < g := by have := (hRw.own.lt g rfl).1; omega
      rw [hll] at hx
      replace hll := hide hll
      replace hRw := hide hRw
      replace hlm := hide hlm
      replace hxi := hide hxi
      replace exi := hide exi
      have hikI : (i : Int) < m := by omega
      have hjkI : (j : Int) < m := by omega
      have hmx : Try.prog.follows .mixedOrders = true := by kernel_rfl
      clear hR hlt hxj exj
      go_upto_region 10 with fail
      obtain ⟨D0, hD0⟩ : ∃ D0, D0 = wr.drew := ⟨_, rfl⟩
      have bD : Below wr.heap.size wr D0 := by rw [hD0]; exact (Below.refl _ _).drew
      have cD : Box D0 Bx 48 #[.slice (some ⟨g, 0, none⟩) m c, .int .i64 5, .string ⟨#[]⟩, .bool false] ∧ D0.cell? ⟨g, j * 11, none⟩ = some (.string (alS j).1) := ⟨hx.on bD hx.lt, (bD.cell (p := ⟨g, j * 11, none⟩) hgl).trans haj⟩
      have hRD := hide ((unhide hRw).on bD)
      have hbD := hide (hb.trans (bD.mono hb.size))
      refine wp_region_any hmx (wpAny_of_C (C := fun w' => Box w' Bx 48 #[.slice (some ⟨g, 0, none⟩) m c, .int .i64 5, .string ⟨#[]⟩, .bool false] ∧ w'.cell? ⟨g, j * 11, none⟩ = some (.string (alS j).1)) _ _ _ _ ?_)
      rw [show ({ heap := wr.heap, tape := wr.tape, drawn := wr.drawn + 1, os := wr.os, output := wr.output } : World) = D0 from hD0.symm]
      clear hD0 bD hx haj hgl hb hRw
      refine wpAnyC_reads 0 cD (by kernel_rfl) (by kernel_rfl) (by kernel_rfl) (fun d _ _ _ _ h => by cases d <;> exact h) (fun oi ho K hK => ?_)
      simp only [List.getElem?_toArray, List.getElem?_cons_zero, Option.some.injEq] at ho
      subst ho
      rw [if_pos (by kernel_rfl)]
      refine ⟨.pointer (some ⟨Bx, 0, none⟩), fun w' hw' => ?_, hK _ ?_⟩
      · obtain ⟨hz, hal⟩ := hw'
        obtain ⟨hs0, hs1, hs2, hs3⟩ := Box.four hz
        go_simp
      clear hK K
      refine wpAnyC_reads 1 cD (by kernel_rfl) (by kernel_rfl) (by kernel_rfl) (fun d _ _ _ _ h => by cases d <;> exact h) (fun oi ho K hK => ?_)
      simp only [List.getElem?_toArray, List.getElem?_cons_succ, List.getElem?_cons_zero, Option.some.injEq] at ho
      subst ho
      rw [if_pos (by kernel_rfl)]
      refine ⟨.slice (some ⟨g, 0, none⟩) m c, fun w' hw' => ?_, hK _ ?_⟩
      · obtain ⟨hz, hal⟩ := hw'
        obtain ⟨hs0, hs1, hs2, hs3⟩ := Box.four hz
        go_simp
      clear hK K
      refine wpAnyC_reads 2 cD (by kernel_rfl) (by kernel_rfl) (by kernel_rfl) (fun d _ _ _ _ h => by cases d <;> exact h) (fun oi ho K hK => ?_)
      simp only [List.getElem?_toArray, List.getElem?_cons_succ, List.getElem?_cons_zero, Option.some.injEq] at ho
      subst ho
      rw [if_pos (by kernel_rfl)]
      refine ⟨.int .i64 i, fun w' hw' => ?_, hK _ ?_⟩
      · obtain ⟨hz, hal⟩ := hw'
        obtain ⟨hs0, hs1, hs2, hs3⟩ := Box.four hz
        go_simp
      clear hK K
      refine wpAnyC_reads 3 cD (by kernel_rfl) (by kernel_rfl) (by kernel_rfl) (fun d _ _ _ _ h => by cases d <;> exact h) (fun oi ho K hK => ?_)
      simp only [List.getElem?_toArray, List.getElem?_cons_succ, List.getElem?_cons_zero, Option.some.injEq] at ho
      subst ho
      rw [if_pos (by kernel_rfl)]
      refine ⟨.pointer (some ⟨Bx, 0, none⟩), fun w' hw' => ?_, hK _ ?_⟩
      · obtain ⟨hz, hal⟩ := hw'
        obtain ⟨hs0, hs1, hs2, hs3⟩ := Box.four hz
        go_simp
      clear hK K
      refine wpAnyC_reads 4 cD (by kernel_rfl) (by kernel_rfl) (by kernel_rfl) (fun d _ _ _ _ h => by cases d <;> exact h) (fun oi ho K hK => ?_)
      simp only [List.getElem?_toArray, List.getElem?_cons_succ, List.getElem?_cons_zero, Option.some.injEq] at ho
      subst ho
      rw [if_pos (by kernel_rfl)]
      refine ⟨.slice (some ⟨g, 0, none⟩) m c, fun w' hw' => ?_, hK _ ?_⟩
      · obtain ⟨hz, hal⟩ := hw'
        obtain ⟨hs0, hs1, hs2, hs3⟩ := Box.four hz
        go_simp
      clear hK K
      refine wpAnyC_reads 5 cD (by kernel_rfl) (by kernel_rfl) (by kernel_rfl) (fun d _ _ _ _ h => by cases d <;> exact h) (fun oi ho K hK => ?_)
      simp only [List.getElem?_toArray, List.getElem?_cons_succ, List.getElem?_cons_zero, Option.some.injEq] at ho
      subst ho
      rw [if_pos (by kernel_rfl)]
      refine ⟨.int .i64 j, fun w' hw' => ?_, hK _ ?_⟩
      · obtain ⟨hz, hal⟩ := hw'
        obtain ⟨hs0, hs1, hs2, hs3⟩ := Box.four hz
        go_simp
      clear hK K
      refine wpAnyC_reads 6 cD (by kernel_rfl) (by kernel_rfl) (by kernel_rfl) (fun d _ _ _ _ h => by cases d <;> exact h) (fun oi ho K hK => ?_)
      simp only [List.getElem?_toArray, List.getElem?_cons_succ, List.getElem?_cons_zero, Option.some.injEq] at ho
      subst ho
      rw [if_pos (by kernel_rfl)]
      refine ⟨.pointer (some ⟨g, j * 11, none⟩), fun w' hw' => ?_, hK _ ?_⟩
      · obtain ⟨hz, hal⟩ := hw'
        obtain ⟨hs0, hs1, hs2, hs3⟩ := Box.four hz
        go_simp
      clear hK K
      refine wpAnyC_reads 7 cD (by kernel_rfl) (by kernel_rfl) (by kernel_rfl) (fun d _ _ _ _ h => by cases d <;> exact h) (fun oi ho K hK => ?_)
      simp only [List.getElem?_toArray, List.getElem?_cons_succ, List.getElem?_cons_zero, Option.some.injEq] at ho
      subst ho
      rw [if_pos (by kernel_rfl)]
      refine ⟨.pointer (some ⟨g, j * 11, none⟩), fun w' hw' => ?_, hK _ ?_⟩
      · obtain ⟨hz, hal⟩ := hw'
        obtain ⟨hs0, hs1, hs2, hs3⟩ := Box.four hz
        go_simp
      clear hK K
      refine wpAnyC_reads 8 cD (by kernel_rfl) (by kernel_rfl) (by kernel_rfl) (fun d _ _ _ _ h => by cases d <;> exact h) (fun oi ho K hK => ?_)
      simp only [List.getElem?_toArray, List.getElem?_cons_succ, List.getElem?_cons_zero, Option.some.injEq] at ho
      subst ho
      rw [if_pos (by kernel_rfl)]
      refine ⟨.string (alS j).1, fun w' hw' => ?_, hK _ ?_⟩
      · obtain ⟨hz, hal⟩ := hw'
        obtain ⟨hs0, hs1, hs2, hs3⟩ := Box.four hz
        go_simp
      clear hK K
      refine wpAnyC_calls 9 (by kernel_rfl) (fun oi ho K hK => ?_)
      simp only [List.getElem?_toArray, List.getElem?_cons_succ, List.getElem?_cons_zero, Option.some.injEq] at ho
      subst ho
      go_simp
      refine (field8_c (alS j) (tk [98]) D0).mono ?_
      rintro r U ⟨rfl, bU⟩
      have hgU : g < D0.heap.size := cell_lt cD.2
      have cU : Box U Bx 48 #[.slice (some ⟨g, 0, none⟩) m c, .int .i64 5, .string ⟨#[]⟩, .bool false] ∧ U.cell? ⟨g, j * 11, none⟩ = some (.string (alS j).1) := ⟨cD.1.on bU cD.1.lt, (bU.cell (p := ⟨g, j * 11, none⟩) hgU).trans cD.2⟩
      have hRU := (unhide hRD).on bU
      have hbU := hide ((unhide hbD).trans (bU.mono (unhide hbD).size))
      go_simp
      refine hK _ _ cU ?_
      clear hK K cD hRD hbD bU
      refine wpAnyC_reads 10 cU (by kernel_rfl) (by kernel_rfl) (by kernel_rfl) (fun d _ _ _ _ h => by cases d <;> exact h) (fun oi ho K hK => ?_)
      simp only [List.getElem?_toArray, List.getElem?_cons_succ, List.getElem?_cons_zero, Option.some.injEq] at ho
      subst ho
      rw [if_pos (by kernel_rfl)]
      refine ⟨.pointer (some ⟨g, i * 11, none⟩), fun w' hw' => ?_, hK _ ?_⟩
      · obtain ⟨hz, hal⟩ := hw'
        obtain ⟨hs0, hs1, hs2, hs3⟩ := Box.four hz
        go_simp
      clear hK K
      refine wpAnyC_reads 11 cU (by kernel_rfl) (by kernel_rfl) (by kernel_rfl) (fun d _ _ _ _ h => by cases d <;> exact h) (fun oi ho K hK => ?_)
      simp only [List.getElem?_toArray, List.getElem?_cons_succ, List.getElem?_cons_zero, Option.some.injEq] at ho
      subst ho
      rw [if_pos (by kernel_rfl)]
      refine ⟨.pointer (some ⟨g, i * 11 + 4, none⟩), fun w' hw' => ?_, hK _ ?_⟩
      · obtain ⟨hz, hal⟩ := hw'
        obtain ⟨hs0, hs1, hs2, hs3⟩ := Box.four hz
        go_simp
      clear hK K
      have hcond := hRU.cond (unhide hxi) (fieldD (alS j) (tk [98]))
      obtain ⟨⟨y0, z0⟩, ⟨y1, z1⟩, ⟨y2, z2⟩, ⟨y3, z3⟩, ⟨y4, z4⟩, ⟨y5, z5⟩, y6, z6⟩ := hRU.condCells (unhide hxi)
      have f0 := hRU.condFrz (i * 11 + 4)
      have f1 := hRU.condFrz (i * 11 + 5)
      have f2 := hRU.condFrz (i * 11 + 6)
      have f3 := hRU.condFrz (i * 11 + 7)
      have f4 := hRU.condFrz (i * 11 + 8)
      have f5 := hRU.condFrz (i * 11 + 9)
      have f6 := hRU.condFrz (i * 11 + 10)
      refine wpAnyC_calls 12 (by kernel_rfl) (fun oi ho K hK => ?_)
      simp only [List.getElem?_toArray, List.getElem?_cons_succ, List.getElem?_cons_zero, Option.some.injEq] at ho
      subst ho
      go_simp
      obtain ⟨W7, hW7⟩ : ∃ W7, W7 = ((((((U.setCell ⟨g, i * 11 + 4, none⟩ (.int .i64 2)).setCell ⟨g, i * 11 + 4 + 1, none⟩ (.int .i64 0)).setCell ⟨g, i * 11 + 4 + 2, none⟩ (.int .i64 0)).setCell ⟨g, i * 11 + 4 + 3, none⟩ (.string ⟨#[]⟩)).setCell ⟨g, i * 11 + 4 + 4, none⟩ (.string (alS j).1)).setCell ⟨g, i * 11 + 4 + 5, none⟩ (.string ⟨#[98]⟩)).setCell ⟨g, i * 11 + 4 + 6, none⟩ (.slice none 0 0) := ⟨_, rfl⟩
      rw [← hW7]
      have hR7 := hcond W7 hW7
      have hne : g ≠ Bx := by omega
      have x7 : Box W7 Bx 48 #[.slice (some ⟨g, 0, none⟩) m c, .int .i64 5, .string ⟨#[]⟩, .bool false] := by
        rw [hW7]
        exact ((((((cU.1.other _ _ hne).other _ _ hne).other _ _ hne).other _ _ hne).other _ _ hne).other _ _ hne).other _ _ hne
      have hwg : w.heap.size ≤ g := by omega
      have b7 := unhide hbU
      replace b7 : Below w.heap.size w W7 := by
        rw [hW7]
        exact ((((((b7.setCell (p := ⟨g, i * 11 + 4, none⟩) hwg _).setCell (p := ⟨g, i * 11 + 4 + 1, none⟩) hwg _).setCell (p := ⟨g, i * 11 + 4 + 2, none⟩) hwg _).setCell (p := ⟨g, i * 11 + 4 + 3, none⟩) hwg _).setCell (p := ⟨g, i * 11 + 4 + 4, none⟩) hwg _).setCell (p := ⟨g, i * 11 + 4 + 5, none⟩) hwg _).setCell (p := ⟨g, i * 11 + 4 + 6, none⟩) hwg _
      have hc7 : W7.cell? ⟨g, j * 11, none⟩ = some (.string (alS j).1) := by
        have h := cU.2
        rw [hW7]
        repeat rw [World.cell?_setCell_other _ _ _ _ (fun e => by injection e with e1 e2; omega)]
        exact h
      refine hK _ _ ⟨x7, hc7⟩ ?_
      clear hK K hcond z0 z1 z2 z3 z4 z5 z6 f0 f1 f2 f3 f4 f5 f6 hW7 hc7 cU hRU hbU
      refine wpAnyC_done (by kernel_rfl) ?_ _
      have hes : (l.set i (⟨xi.1.al, xi.1.ts, xi.1.pl, xi.1.nt, .mk (fieldD (alS j) (tk [98])) []⟩, ⟨xi.2.ta, xi.2.tc, none, 0⟩)).map (·.1) = esC nt m i j := by
        rw [List.map_set, unhide hlm, unhide exi]; rfl
      have hesl : (esC nt m i j).length = m := by simp [esC, esS]
      have hR7' := hR7
      rw [show l.length = (l.set i (⟨xi.1.al, xi.1.ts, xi.1.pl, xi.1.nt, .mk (fieldD (alS j) (tk [98])) []⟩, ⟨xi.2.ta, xi.2.tc, none, 0⟩)).length from List.length_set.symm] at hR7'
      obtain ⟨a', c', ev, hcap, hem⟩ := hR7'.ems (by rw [List.length_set, unhide hll]; omega)
      rw [hes] at ev hcap hem
      rw [List.length_set, unhide hll, hesl] at ev
      obtain ⟨rfl, -, rfl⟩ := Value.slice.inj ev
      have hsc := hide (sco_k nt m hk6 hk3 i hik j hjk)
      replace hem := hide hem
      replace hb7 := hide b7
      replace hcap := hide hcap
      replace hesl := hide hesl
      have hx7 := hide x7
      obtain ⟨gd, hgd⟩ : ∃ gd, gd = goodS nt i j := ⟨_, rfl⟩
      replace hgd := hide hgd
      clear ev hes hR7 hR7' x7 b7 hgB hgU hne hwg hikI hjkI hBx hkz hkz2 hk3 hk6
      cases nt
      · go_upto_region 11 with fail
        go_cut [14] from 97 (fun v14 wc => v14 = .bool gd ∧ wc = W7)
        case first =>
          by_cases hc1 : j = i
          · have e1 : ((j : Int) == i) = true := by simp [hc1]
            have hg2 := hide (show gd = true by rw [unhide hgd]; simp [goodS, *])
            replace hc1 := hide hc1
            go_wp2_with fail
            go_meet
            exact ⟨by rw [unhide hg2], rfl⟩
          have e1 : ((j : Int) == i) = false := by simp; omega
          by_cases hc2 : j < i
          case neg =>
            have hg2 := hide (show gd = false by rw [unhide hgd]; simp [goodS, *])
            replace hc1 := hide hc1
            go_wp2_with fail
            go_meet
            exact ⟨by rw [unhide hg2], rfl⟩
          have hg2 := hide (show gd = true by rw [unhide hgd]; simp [goodS, *])
          clear hc1
          go_wp2_with fail
          go_meet
          exact ⟨by rw [unhide hg2], rfl⟩
        case rest =>
          obtain ⟨rfl, rfl⟩ := hcut
          rw [← unhide hgd] at hsc
          replace hsc := hide (unhide hsc)
          go_upto_region 12 with fail
          obtain ⟨E0, hE0⟩ : ∃ E0, E0 = wc.drew := ⟨_, rfl⟩
          have bE : Below wc.heap.size wc E0 := by rw [hE0]; exact (Below.refl _ _).drew
          have cD : Box E0 Bx 48 #[.slice (some ⟨g, 0, none⟩) m c, .int .i64 5, .string ⟨#[]⟩, .bool false] := (unhide hx7).on bE (unhide hx7).lt
          have mP := hide ((unhide hem).on bE)
          have hb := hide ((unhide hb7).trans (bE.mono (unhide hb7).size))
          refine wp_region_any hmx (wpAny_of_C (C := fun w' => Box w' Bx 48 #[.slice (some ⟨g, 0, none⟩) m c, .int .i64 5, .string ⟨#[]⟩, .bool false]) _ _ _ _ ?_)
          rw [show ({ heap := wc.heap, tape := wc.tape, drawn := wc.drawn + 1, os := wc.os, output := wc.output } : World) = E0 from hE0.symm]
          clear hE0 bE hx7 hem hb7
          refine wpAnyC_reads 1 cD (by kernel_rfl) (by kernel_rfl) (by kernel_rfl) (fun d _ _ _ _ h => by cases d <;> exact h) (fun oi ho K hK => ?_)
          simp only [List.getElem?_toArray, List.getElem?_cons_succ, List.getElem?_cons_zero, Option.some.injEq] at ho
          subst ho
          rw [if_pos (by kernel_rfl)]
          refine ⟨.agg #[.slice (some ⟨g, 0, none⟩) m c, .int .i64 5, .string ⟨#[]⟩, .bool false], fun w' hw' => ?_, hK _ ?_⟩
          · obtain ⟨hs0, hs1, hs2, hs3⟩ := Box.four hw'
            go_simp
          clear hK K
          have cB := hide (base_c E0)
          refine wpAnyC_calls 0 (by kernel_rfl) (fun oi ho K hK => ?_)
          simp only [List.getElem?_toArray, List.getElem?_cons_zero, Option.some.injEq] at ho
          subst ho
          go_simp
          refine (unhide cB).mono ?_
          rintro r U ⟨a, rfl, sU, bU⟩
          have cD := cD.on bU cD.lt
          replace hb := hide ((unhide hb).trans (bU.mono (unhide hb).size))
          have cP := pattern12_c a 2 baseT ⟨esC false m i j, 5, t0, false⟩ (some ⟨g, 0, none⟩) c (unhide hcap) U sU ((unhide mP).on bU)
          rw [ptv (unhide hesl)] at cP
          have cP := hide cP
          clear sU bU cB mP
          go_simp
          refine hK _ _ cD ?_
          clear hK K
          refine wpAnyC_calls 2 (by kernel_rfl) (fun oi ho K hK => ?_)
          simp only [List.getElem?_toArray, List.getElem?_cons_succ, List.getElem?_cons_zero, Option.some.injEq] at ho
          subst ho
          go_simp
          refine (unhide cP).mono ?_
          rintro r G ⟨rfl, bG⟩
          have cD := cD.on bG cD.lt
          replace hb := hide ((unhide hb).trans (bG.mono (unhide hb).size))
          clear bG cP
          rw [unhide hsc]
          obtain ⟨ev, hev⟩ : ∃ ev, ev = errO (if gd = true then 0 else 13) := ⟨_, rfl⟩
          rw [← hev]
          replace hev := hide hev
          go_simp
          refine hK _ _ cD ?_
          clear hK K
          refine wpAnyC_reads 3 cD (by kernel_rfl) (by kernel_rfl) (by kernel_rfl) (fun d _ _ _ _ h => by cases d <;> exact h) (fun oi ho K hK => ?_)
          simp only [List.getElem?_toArray, List.getElem?_cons_succ, List.getElem?_cons_zero, Option.some.injEq] at ho
          subst ho
          rw [if_pos (by kernel_rfl)]
          refine ⟨ev, fun w' hw' => ?_, hK _ ?_⟩
          · clear hw'
            go_simp
          clear hK K
          refine wpAnyC_done (by kernel_rfl) ?_ _
          cases gd
          · obtain rfl : ev = errV 13 := unhide hev
            go_wp2_with fail
            refine (errIs_same 13 G).mono ?_
            rintro r w9 ⟨rfl, rfl⟩
            go_wp2_with fail
            go_ret
            exact ⟨rfl, unhide hb⟩
          · obtain rfl : ev = .nilIface := unhide hev
            go_wp2_with fail
            go_ret
            exact ⟨rfl, unhide hb⟩
      · go_upto_region 11 with fail
        go_cut [14] from 97 (fun v14 wc => v14 = .bool gd ∧ wc = W7)
        case first =>
          by_cases hc1 : j = i
          · have e1 : ((j : Int) == i) = true := by simp [hc1]
            have hg2 := hide (show gd = true by rw [unhide hgd]; simp [goodS, *])
            replace hc1 := hide hc1
            go_wp2_with fail
            go_meet
            exact ⟨by rw [unhide hg2], rfl⟩
          have e1 : ((j : Int) == i) = false := by simp; omega
          by_cases hc2 : j < i
          case neg =>
            have hg2 := hide (show gd = false by rw [unhide hgd]; simp [goodS, *])
            replace hc1 := hide hc1
            go_wp2_with fail
            go_meet
            exact ⟨by rw [unhide hg2], rfl⟩
          by_cases hc3 : j = 1
          · have e3 : ((j : Int) == 1) = true := by simp [hc3]
            have hc4 : ¬ 1 = i := by omega
            have hg2 := hide (show gd = false by rw [unhide hgd]; simp [goodS, hc3, hc4])
            clear hc4
            clear hc1 hc3
            go_wp2_with fail
            go_meet
            exact ⟨by rw [unhide hg2], rfl⟩
          · have e3 : ((j : Int) == 1) = false := by simp; omega
            have hg2 := hide (show gd = true by rw [unhide hgd]; simp [goodS, *])
            clear hc1 hc3
            go_wp2_with fail
            go_meet
            exact ⟨by rw [unhide hg2], rfl⟩
        case rest =>
          obtain ⟨rfl, rfl⟩ := hcut
          rw [← unhide hgd] at hsc
          replace hsc := hide (unhide hsc)
          go_upto_region 12 with fail
          obtain ⟨E0, hE0⟩ : ∃ E0, E0 = wc.drew := ⟨_, rfl⟩
          have bE : Below wc.heap.size wc E0 := by rw [hE0]; exact (Below.refl _ _).drew
          have cD : Box E0 Bx 48 #[.slice (some ⟨g, 0, none⟩) m c, .int .i64 5, .string ⟨#[]⟩, .bool false] := (unhide hx7).on bE (unhide hx7).lt
          have mP := hide ((unhide hem).on bE)
          have hb := hide ((unhide hb7).trans (bE.mono (unhide hb7).size))
          refine wp_region_any hmx (wpAny_of_C (C := fun w' => Box w' Bx 48 #[.slice (some ⟨g, 0, none⟩) m c, .int .i64 5, .string ⟨#[]⟩, .bool false]) _ _ _ _ ?_)
          rw [show ({ heap := wc.heap, tape := wc.tape, drawn := wc.drawn + 1, os := wc.os, output := wc.output } : World) = E0 from hE0.symm]
          clear hE0 bE hx7 hem hb7
          refine wpAnyC_reads 1 cD (by kernel_rfl) (by kernel_rfl) (by kernel_rfl) (fun d _ _ _ _ h => by cases d <;> exact h) (fun oi ho K hK => ?_)
          simp only [List.getElem?_toArray, List.getElem?_cons_succ, List.getElem?_cons_zero, Option.some.injEq] at ho
          subst ho
          rw [if_pos (by kernel_rfl)]
          refine ⟨.agg #[.slice (some ⟨g, 0, none⟩) m c, .int .i64 5, .string ⟨#[]⟩, .bool false], fun w' hw' => ?_, hK _ ?_⟩
          · obtain ⟨hs0, hs1, hs2, hs3⟩ := Box.four hw'
            go_simp
          clear hK K
          have cB := hide (base_c E0)
          refine wpAnyC_calls 0 (by kernel_rfl) (fun oi ho K hK => ?_)
          simp only [List.getElem?_toArray, List.getElem?_cons_zero, Option.some.injEq] at ho
          subst ho
          go_simp
          refine (unhide cB).mono ?_
          rintro r U ⟨a, rfl, sU, bU⟩
          have cD := cD.on bU cD.lt
          replace hb := hide ((unhide hb).trans (bU.mono (unhide hb).size))
          have cP := pattern12_c a 2 baseT ⟨esC true m i j, 5, t0, false⟩ (some ⟨g, 0, none⟩) c (unhide hcap) U sU ((unhide mP).on bU)
          rw [ptv (unhide hesl)] at cP
          have cP := hide cP
          clear sU bU cB mP
          go_simp
          refine hK _ _ cD ?_
          clear hK K
          refine wpAnyC_calls 2 (by kernel_rfl) (fun oi ho K hK => ?_)
          simp only [List.getElem?_toArray, List.getElem?_cons_succ, List.getElem?_cons_zero, Option.some.injEq] at ho
          subst ho
          go_simp
          refine (unhide cP).mono ?_
          rintro r G ⟨rfl, bG⟩
          have cD := cD.on bG cD.lt
          replace hb := hide ((unhide hb).trans (bG.mono (unhide hb).size))
          clear bG cP
          rw [unhide hsc]
          obtain ⟨ev, hev⟩ : ∃ ev, ev = errO (if gd = true then 0 else 13) := ⟨_, rfl⟩
          rw [← hev]
          replace hev := hide hev
          go_simp
          refine hK _ _ cD ?_
          clear hK K
          refine wpAnyC_reads 3 cD (by kernel_rfl) (by kernel_rfl) (by kernel_rfl) (fun d _ _ _ _ h => by cases d <;> exact h) (fun oi ho K hK => ?_)
          simp only [List.getElem?_toArray, List.getElem?_cons_succ, List.getElem?_cons_zero, Option.some.injEq] at ho
          subst ho
          rw [if_pos (by kernel_rfl)]
          refine ⟨ev, fun w' hw' => ?_, hK _ ?_⟩
          · clear hw'
            go_simp
          clear hK K
          refine wpAnyC_done (by kernel_rfl) ?_ _
          cases gd
          · obtain rfl : ev = errV 13 := unhide hev
            go_wp2_with fail
            refine (errIs_same 13 G).mono ?_
            rintro r w9 ⟨rfl, rfl⟩
            go_wp2_with fail
            go_ret
            exact ⟨rfl, unhide hb⟩
          · obtain rfl : ev = .nilIface := unhide hev
            go_wp2_with fail
            go_ret
            exact ⟨rfl, unhide hb⟩
end Go.Proofs.Ytllpigbmkhanjaa
