/-
  What wide and wideAny answer: some Boolean; nothing that lay is turned.
-/
import Derived.Test.YtfofpenajkaalaaDoorShowP
namespace Go.Proofs.YtfofpenajkaalaaDoor
open Go.RowKit Go.Shelf

/-- Some Boolean comes back. -/
def IsBool (e : Ending) : Prop := ∃ b, e = .returned (.bool b)

theorem node_cells {W : World} {base : Nat} {ad : Addr} {c : Nat} {l : List Nd} (h : W.ownsRow base 26 7 (.slice (some ad) l.length c) l.length (newsN l)) {i : Nat} {x : Nd} (hx : l[i]? = some x) :
    ∃ g, ad = ⟨g, 0, none⟩ ∧ ∀ (j : Nat) u, x.cs[j]? = some u → W.cell? ⟨g, i * 7 + j, none⟩ = some u := by
  have hc := owns_cellsN h
  rcases h.2 with ⟨e, _⟩ | ⟨g, cap, cur, e, -⟩
  · simp at e
  · simp only [Value.slice.injEq, Option.some.injEq] at e
    obtain ⟨rfl, -, -⟩ := e
    refine ⟨g, rfl, fun j u hu => ?_⟩
    have hj : j < 7 := by
      have := (Array.getElem?_eq_some_iff.1 hu).1
      simpa using this
    have := hc (i * 7 + j) u (by rw [newsN_at l i x hx j hj]; exact hu)
    rwa [WideShapes.add_plain, Nat.zero_add] at this

set_option maxRecDepth 100000 in
set_option maxHeartbeats 4000000 in
theorem wide_c (d : Dat) (cap : Nat) (a : Option Addr) (ks : List Tree) (W : World) (hL : Lies W.heap.size W a ks) (hM : cntT 20 (.mk d ks) ≤ 1073741824) :
    Calls Tryd.prog 6 #[d.v a ks.length cap] W fun r W' => IsBool r ∧ Below W.heap.size W W' := by
  obtain ⟨W0, hW0⟩ : ∃ W0, W0 = W.alloc (.cells (d.cs a ks.length cap) 26) := ⟨_, rfl⟩
  have b0 : Below W.heap.size W W0 := by rw [hW0]; exact (Below.refl _ _).alloc (Nat.le_refl _) _
  have x0 : Box W0 W.heap.size 26 (d.cs a ks.length cap) := by rw [hW0]; exact Box.new _ _ _
  obtain ⟨h0, h1, h2, h3, h4, h5, h6⟩ := x0.seven
  have cN := hide (nodes_c d cap a ks W0 (hL.on b0) hM)
  go_enter Tryd.func6, Tryd.ntmps6
  go_upto_region 1 with fail
  rw [show Obj.cells #[Value.int .i64 d.op, .int .i64 d.k, .int .i64 d.n, .string d.s.1, .string d.al.1, .string d.fd.1, .slice a ks.length cap] 26 = Obj.cells (d.cs a ks.length cap) 26 from rfl, ← hW0]
  clear hW0
  go_wp2_with fail
  refine (unhide cN).mono ?_
  rintro e W1 ⟨v, l, rfl, hl, hown, hb1⟩
  have b1 := b0.trans (hb1.mono b0.size)
  have hl30 : (l.length : Int) ≤ 1073741824 := by omega
  obtain ⟨a', c', rfl⟩ := owns_form hown
  replace hown := hide hown
  clear cN hl h0 h1 h2 h3 h4 h5 h6
  go_wp2_with fail
  go_loop [4] (fun vi => ∃ i : Nat, i ≤ l.length ∧ vi = .int .i64 i) (fun vi => l.length - (intOf vi).toNat)
  case atStart => exact ⟨0, Nat.zero_le _, rfl⟩
  case round =>
    obtain ⟨i, hi, rfl⟩ := hrel
    by_cases hlt : i < l.length
    · obtain ⟨x, hx⟩ : ∃ x, l[i]? = some x := ⟨_, List.getElem?_eq_getElem hlt⟩
      cases a' with
      | none =>
        exfalso
        rcases (unhide hown).2 with ⟨-, h0⟩ | ⟨g, cc, cur, e, _⟩
        · omega
        · simp at e
      | some ad =>
      obtain ⟨g, rfl, hc⟩ := node_cells (unhide hown) hx
      have hd1 := hc 1 _ rfl
      have hd2 := hc 2 _ rfl
      have hd3 := hc 3 _ rfl
      have hd4 := hc 4 _ rfl
      have hd5 := hc 5 _ rfl
      have hd6 := hc 6 _ rfl
      clear hc hx
      have hkl : (i : Int) < l.length := by omega
      have hk0 : (0 : Int) ≤ i := by omega
      obtain ⟨⟨op, k, n, s, al, fd⟩, xa, xm, xc⟩ := x
      by_cases q1 : (4 : Int) < xm
      · go_wp2_with fail
        go_ret
        exact ⟨⟨_, rfl⟩, b1⟩
      by_cases q2 : (50 : Int) < al.1.size
      · go_wp2_with fail
        go_ret
        exact ⟨⟨_, rfl⟩, b1⟩
      by_cases q3 : (50 : Int) < fd.1.size
      · go_wp2_with fail
        go_ret
        exact ⟨⟨_, rfl⟩, b1⟩
      by_cases q4 : (50 : Int) < s.1.size
      · go_wp2_with fail
        go_ret
        exact ⟨⟨_, rfl⟩, b1⟩
      go_wp2_with fail
      exact ⟨⟨i + 1, by omega, by go_num⟩, by simp [intOf]; omega⟩
    · have hn' : ¬ (i : Int) < l.length := by omega
      go_wp2_with fail
      go_ret
      exact ⟨⟨_, rfl⟩, b1⟩

set_option maxRecDepth 100000 in
set_option maxHeartbeats 4000000 in
theorem wideAny_c (q : Pt) (a : Option Addr) (cap : Nat) (hM : ∀ e ∈ q.es, cntT 20 e.t ≤ 1073741824) (W : World) (hE : Ems W.heap.size W a q.es) :
    Calls Tryd.prog 7 #[q.v a cap] W fun r W' => IsBool r ∧ Below W.heap.size W W' := by
  obtain ⟨W0, hW0⟩ : ∃ W0, W0 = W.alloc (.cells (q.cs a cap) 29) := ⟨_, rfl⟩
  have b0 : Below W.heap.size W W0 := by rw [hW0]; exact (Below.refl _ _).alloc (Nat.le_refl _) _
  have x0 : Box W0 W.heap.size 29 (q.cs a cap) := by rw [hW0]; exact Box.new _ _ _
  have hlen := hE.1
  obtain ⟨es, wi, nm, any⟩ := q
  obtain ⟨h0, h1, h2, h3⟩ := x0.four
  simp only at hlen h0 h1 h2 h3 hM hE
  have hE0 := hide (hE.on b0)
  have HM := hide hM
  have hl' : (es.length : Int) ≤ 1000000 := by omega
  clear hE hM
  go_enter Tryd.func7, Tryd.ntmps7
  go_upto_region 1 with fail
  rw [show Obj.cells #[Value.slice a es.length cap, .int .i64 wi, .string nm.1, .bool any] 29 = Obj.cells (Pt.cs ⟨es, wi, nm, any⟩ a cap) 29 from rfl, ← hW0]
  clear hW0
  go_wp2_with fail
  go_loopw [3] (fun vi wr => ∃ i : Nat, i ≤ es.length ∧ vi = .int .i64 i ∧ Below W0.heap.size W0 wr) (fun vi _ => es.length - (intOf vi).toNat)
  case atStart => exact ⟨0, Nat.zero_le _, rfl, Below.refl _ _⟩
  case round =>
    obtain ⟨i, hi, rfl, hB⟩ := hrel
    clear h0 h1 h2 h3
    have xr := x0.on hB x0.lt
    obtain ⟨h0, h1, h2, h3⟩ := xr.four
    simp only at h0
    have br : Below W.heap.size W wr := b0.trans (hB.mono b0.size)
    by_cases hlt : i < es.length
    · obtain ⟨e, he⟩ : ∃ e, es[i]? = some e := ⟨_, List.getElem?_eq_getElem hlt⟩
      have hcnt := unhide HM e (List.mem_of_getElem? he)
      obtain ⟨b, off, p, ea, hbn, hcs, hin⟩ := ((unhide hE0).on hB).at he
      have hd1 := hcs 1 _ rfl
      have hd4 := hcs 4 _ rfl
      have hd5 := hcs 5 _ rfl
      have hd6 := hcs 6 _ rfl
      have hd7 := hcs 7 _ rfl
      have hd8 := hcs 8 _ rfl
      have hd9 := hcs 9 _ rfl
      have hd10 := hcs 10 _ rfl
      clear he
      subst ea
      have hkl : (i : Int) < es.length := by omega
      have hk0 : (0 : Int) ≤ i := by omega
      obtain ⟨eal, ets, epl, ent, ⟨td, tk⟩⟩ := e
      have cW := hide (wide_c td p.kc p.ka tk wr hin.2 hcnt)
      clear hin hcnt
      have hcs1 := hide (hcs 1 _ rfl)
      clear hcs
      go_wp2_with fail
      refine (unhide cW).mono ?_
      rintro r w2 ⟨⟨g, rfl⟩, hb2⟩
      clear cW hd4 hd5 hd6 hd7 hd8 hd9 hd10 hd1 h0 h1 h2 h3
      have bE := hB.trans (hb2.mono hB.size)
      have bw := b0.trans (bE.mono b0.size)
      have x2 := xr.on hb2 xr.lt
      obtain ⟨h0, h1, h2, h3⟩ := x2.four
      simp only at h0
      have hd1 := (hb2.cell (p := ⟨b, off + i * 11 + 1, none⟩) hbn).trans (unhide hcs1)
      cases g
      · by_cases q1 : (10 : Int) < ets.length
        · go_wp2_with fail
          go_ret
          exact ⟨⟨_, rfl⟩, bw⟩
        · go_wp2_with fail
          exact ⟨⟨i + 1, by omega, by go_num, bE⟩, by simp [intOf]; omega⟩
      · go_wp2_with fail
        go_ret
        exact ⟨⟨_, rfl⟩, bw⟩
    · have hn' : ¬ (i : Int) < es.length := by omega
      go_wp2_with fail
      go_ret
      exact ⟨⟨_, rfl⟩, br⟩

end Go.Proofs.YtfofpenajkaalaaDoor
