/-
  What the program's schema.Is tells is what the document asks of a schema, as lists.
  What chain's New makes: a chain, or an error; for every schema and row of at most 30 changes, in whatever world; nothing that lay is turned.
-/
import Derived.Test.YtcjpaldijngnpaaGreatDoorScOrder
import Derived.Test.YtcjpaldijngnpaaGreatDoorChApply
import Derived.Test.YtcjpaldijngnpaaGreatDoorChAdd
namespace Go.Proofs.YtcjpaldijngnpaaGreatDoor
open Go.RowKit Go.Shelf

theorem scName (s : ByteArray) : Sc.nameB s = nameB s := rfl
theorem key_data (x : Txt) : key x = x.1.data.toList := by unfold key; rw [ByteArray.toList_eq]
theorem badF_iff (fs : List Fd) : Sc.badF fs = false ↔ SchF fs := by
  rw [schF_iff]
  unfold Sc.badF
  simp only [Bool.or_eq_false_iff, decide_eq_false_iff_not, Bool.not_eq_false', Nat.not_lt]
  rw [Sc.rise_sort]
  have h1 : Sc.namesB (Sc.fnames fs) = true ↔ ∀ f ∈ fs, nameB f.1.1 = true := by
    simp only [Sc.namesB, Sc.fnames, List.all_eq_true, List.mem_map, forall_exists_index, and_imp, forall_apply_eq_imp_iff₂, scName]
  have h2 : (Sc.bytesOf (Sc.fnames fs)).Nodup ↔ fs.Pairwise (fun a b => key a.1 ≠ key b.1) := by
    simp only [Sc.bytesOf, Sc.fnames, List.map_map, List.Nodup, List.pairwise_map, Function.comp, ne_eq, key_data]
  have h3 : Sc.anyBad fs = false ↔ ∀ f ∈ fs, 1 ≤ f.2 ∧ f.2 ≤ 3 := by
    simp only [Sc.anyBad, List.any_eq_false, Sc.badK, Bool.not_eq_true, Bool.not_eq_false', Bool.or_eq_true, decide_eq_true_eq]
    constructor
    · intro h f hf
      have := h f hf
      omega
    · intro h f hf
      have := h f hf
      omega
  rw [h1, h2, h3]
  constructor
  · rintro ⟨⟨⟨a, b⟩, c⟩, d⟩
    exact ⟨a, fun f hf => ⟨b f hf, d f hf⟩, c⟩
  · rintro ⟨a, b, c⟩
    exact ⟨⟨⟨a, fun f hf => (b f hf).1⟩, c⟩, fun f hf => (b f hf).2⟩
theorem isS_sch (ts : List Ty) : Sc.isS ts = true ↔ Sch ts := by
  rw [sch_iff]
  unfold Sc.isS
  simp only [Bool.and_eq_true, decide_eq_true_eq, Bool.not_eq_true']
  rw [Sc.rise_pw, Sc.bytes_txts]
  have h1 : Sc.namesB (Sc.tnames ts) = true ↔ ∀ t ∈ ts, nameB t.1.1 = true := by
    simp only [Sc.namesB, Sc.tnames, List.all_eq_true, List.mem_map, forall_exists_index, and_imp, forall_apply_eq_imp_iff₂, scName]
  have h2 : (Sc.bytesOf (Sc.tnames ts)).Pairwise (· < ·) ↔ ts.Pairwise (fun a b => key a.1 < key b.1) := by
    simp only [Sc.bytesOf, Sc.tnames, List.map_map, List.pairwise_map, Function.comp, key_data]
  have h3 : Sc.anyBadT ts = false ↔ ∀ t ∈ ts, SchF t.2 := by
    simp only [Sc.anyBadT, List.any_eq_false, Bool.not_eq_true, badF_iff]
  rw [h1, h2, h3]
  constructor
  · rintro ⟨⟨⟨a, b⟩, c⟩, d⟩
    exact ⟨a, fun f hf => ⟨b f hf, d f hf⟩, c⟩
  · rintro ⟨a, b, c⟩
    exact ⟨⟨⟨a, fun f hf => (b f hf).1⟩, c⟩, fun f hf => (b f hf).2⟩
theorem isSchema_c (a : Option Addr) (cap : Nat) (ts : List Ty) (hm : ts.length ≤ maxLen) (w : World) (hT : Typs w.heap.size w a ts) :
    Calls Tryz.prog 27 #[.agg #[.slice a ts.length cap]] w fun e w' => ∃ b : Bool, e = .returned (.bool b) ∧ Below w.heap.size w w' ∧ Hid (b = true ↔ Sch ts) := by
  refine (Sc.is6 a cap ts hm w hT).mono ?_
  rintro e w' ⟨he, hb⟩
  exact ⟨_, he, hb, hide (isS_sch ts)⟩

end Go.Proofs.YtcjpaldijngnpaaGreatDoor

namespace Go.Proofs.YtcjpaldijngnpaaGreatDoor
open Go.RowKit Go.Shelf

/-- The first error of these changes, behind those. -/
def addAll (ts : List Ty) : List Ch → List Ch → Int
  | _, [] => 0
  | cs, c :: l => if addR ts cs c = 0 then addAll ts (cs ++ [c]) l else addR ts cs c
theorem addAll_ok {ts : List Ty} {cs : List Ch} {c : Ch} {l : List Ch} (h : addR ts cs c = 0) : addAll ts cs (c :: l) = addAll ts (cs ++ [c]) l := by simp [addAll, h]
theorem addAll_no {ts : List Ty} {cs : List Ch} {c : Ch} {l : List Ch} (h : addR ts cs c ≠ 0) : addAll ts cs (c :: l) = addR ts cs c := by simp [addAll, h]
theorem addR_len {ts : List Ty} {cs : List Ch} {c : Ch} (h : addR ts cs c = 0) : cs.length < 20 := by
  unfold addR at h
  split at h
  · cases h
  · omega

/-- What New leaves. -/
def NewLeft (r : Int) (n : Nat) (ts : List Ty) (ls : List Ch) (e : Ending) (W : World) : Prop :=
  (r = 0 ∧ ∃ (Bp : Nat) (a' ac : Option Addr) (cap capc : Nat), e = .returned (.tuple #[.pointer (some ⟨Bp, 0, none⟩), .nilIface]) ∧ n ≤ Bp ∧ ls.length ≤ 20 ∧ IsCh W.heap.size W Bp a' ac cap capc ts ls) ∨ (r ≠ 0 ∧ e = .returned (.tuple #[.pointer none, errV r]))

set_option maxRecDepth 100000 in
set_option maxHeartbeats 8000000 in
theorem new_c (a al : Option Addr) (cap capl : Nat) (ts : List Ty) (ls : List Ch) (hm : ts.length ≤ maxLen) (hl : ls.length ≤ 30) (w : World) (hT : Typs w.heap.size w a ts) (hL : Chs w.heap.size w al ls) :
    Calls Tryz.prog 8 #[.agg #[.slice a ts.length cap], .slice al ls.length capl] w fun e w' => Below w.heap.size w w' ∧ Hid ((¬ Sch ts ∧ NewLeft 10 w.heap.size ts ls e w') ∨ (Sch ts ∧ NewLeft (addAll ts [] ls) w.heap.size ts ls e w')) := by
  obtain ⟨W0, hW0⟩ : ∃ W0, W0 = w.alloc (.cells #[.slice a ts.length cap] 24) := ⟨_, rfl⟩
  have b0 : Below w.heap.size w W0 := by rw [hW0]; exact (Below.refl _ _).alloc (Nat.le_refl _) _
  have x2 : Box W0 w.heap.size 24 #[.slice a ts.length cap] := by rw [hW0]; exact Box.new _ _ _
  have e0 : W0.heap.size = w.heap.size + 1 := by rw [hW0]; simp
  have T0 := hT.on b0
  have hW0' := hide hW0
  clear hW0
  have hs := x2.one.1
  have cI := hide (isSchema_c a cap ts hm W0 T0)
  go_enter Tryz.func8, Tryz.ntmps8
  go_upto_region 1 with fail
  rw [← unhide hW0']
  go_wp2_with fail
  refine (unhide cI).mono ?_
  rintro e w1 ⟨B, rfl, hb1, hB⟩
  clear cI hs
  have bw1 := b0.trans (hb1.mono b0.size)
  cases B with
  | false =>
    go_wp2_with fail
    refine bodyPost_ret (v := .tuple #[.pointer none, errV 10]) (by simp [results, Tryz.results8, go_sem]) rfl ?_
    exact ⟨bw1, hide (.inl ⟨fun h => Bool.noConfusion ((unhide hB).2 h), .inr ⟨by decide, rfl⟩⟩)⟩
  | true =>
    have hS := (unhide hB).1 rfl
    clear hB
    have hs := (x2.on hb1 x2.lt).one.1
    have cC := hide (chCopied_c a cap ts hS.1 (sch_hk5 hS) w1 (T0.on hb1))
    go_wp2_with fail
    refine (unhide cC).mono ?_
    rintro e w2 ⟨a2, c2, rfl, ho2, hb2⟩
    clear cC hs
    obtain ⟨w3, hw3⟩ : ∃ w3, w3 = w2.alloc (.cells #[.slice a2 ts.length c2, .slice none 0 0] 76) := ⟨_, rfl⟩
    have b23 : Below w2.heap.size w2 w3 := by rw [hw3]; exact (Below.refl _ _).alloc (Nat.le_refl _) _
    have v6 : Box w3 w2.heap.size 76 #[.slice a2 ts.length c2, .slice none 0 0] := by rw [hw3]; exact Box.new _ _ _
    go_upto_region 4 with fail
    rw [← hw3]
    clear hw3
    have bw2 := bw1.trans (hb2.mono bw1.size)
    have bw3 := bw2.trans (b23.mono bw2.size)
    have C3 : IsCh w3.heap.size w3 w2.heap.size a2 none c2 0 ts [] := ⟨v6, v6.lt, (ho2.on b23).in, World.ownsRow_nil _ _ _ _, fun g hg => by cases hg⟩
    replace C3 := hide C3
    have bS := hide bw3
    have hwB := bw2.size
    go_wp2_with fail
    go_loopw [20] (fun i wr => ∃ (k : Nat) (ac : Option Addr) (capc : Nat), k ≤ ls.length ∧ i = .int .i64 k ∧ Hid (addAll ts [] ls = addAll ts (ls.take k) (ls.drop k) ∧ (ls.take k).length ≤ 20) ∧ Hid (IsCh wr.heap.size wr w2.heap.size a2 ac c2 capc ts (ls.take k)) ∧ Below w.heap.size w wr) (fun i _ => ls.length - (intOf i).toNat)
    case atStart => exact ⟨0, none, 0, Nat.zero_le _, rfl, hide ⟨rfl, Nat.zero_le _⟩, C3, unhide bS⟩
    case round =>
      obtain ⟨k, ac, capc, hk, rfl, hadd, hC, hbw⟩ := hrel
      by_cases hlt : k < ls.length
      · obtain ⟨b, off, eal, hb, hcs⟩ : ∃ b off, al = some ⟨b, off, none⟩ ∧ b < w.heap.size ∧ ∀ (i : Nat) u, (chn ls k).cs[i]? = some u → wr.cell? ⟨b, off + k * 7 + i, none⟩ = some u := by
          rcases hL.below hbw with h | ⟨b, off, e, hb, hc⟩
          · rw [h] at hlt; simp at hlt
          · exact ⟨b, off, e, hb, hc k hlt⟩
        obtain ⟨c, hc⟩ : ∃ c, c = chn ls k := ⟨_, rfl⟩
        rw [← hc] at hcs
        have hd0 := hcs 0 _ rfl
        have hd1 := hcs 1 _ rfl
        have hd2 := hcs 2 _ rfl
        have hd3 := hcs 3 _ rfl
        have hd4 := hcs 4 _ rfl
        have hd5 := hcs 5 _ rfl
        have hd6 := hcs 6 _ rfl
        rw [Nat.add_zero] at hd0
        clear hcs
        subst eal
        have hck : c = ls[k] := by rw [hc]; simp [chn, hlt]
        have htk := hide (show ls.take (k + 1) = ls.take k ++ [c] by rw [List.take_succ_eq_append_getElem hlt, hck])
        have hdk := hide (show ls.drop k = c :: ls.drop (k + 1) by rw [List.drop_eq_getElem_cons hlt, hck])
        replace hc := hide hc
        clear hck
        obtain ⟨w4, hw4⟩ : ∃ w4, w4 = wr.alloc (.cells c.cs 42) := ⟨_, rfl⟩
        have b4 : Below wr.heap.size wr w4 := by rw [hw4]; exact (Below.refl _ _).alloc (Nat.le_refl _) _
        have v8 : Box w4 wr.heap.size 42 c.cs := by rw [hw4]; exact Box.new _ _ _
        go_upto_region 7 with fail
        rw [show Obj.cells #[Value.int .i64 c.k, .string c.t.1, .string c.f.1, .string c.o.1, .int .i64 c.dk, .int .i64 c.dn, .string c.ds.1] 42 = Obj.cells c.cs 42 from rfl, ← hw4]
        clear hw4 hd0 hd1 hd2 hd3 hd4 hd5 hd6
        obtain ⟨hc0, hc1, hc2, hc3, hc4, hc5, hc6⟩ := v8.seven
        have bw4 := hbw.trans (b4.mono hbw.size)
        have C4 := ((unhide hC).on b4).mono b4.size
        have cA := hide (add_c w2.heap.size c2 capc a2 ac ts (ls.take k) c hS (unhide hadd).2 w4 C4)
        obtain ⟨r, hr⟩ : ∃ r, r = addR ts (ls.take k) c := ⟨_, rfl⟩
        rw [← hr] at cA
        replace hr := hide hr
        go_wp2_with fail
        refine (unhide cA).mono ?_
        rintro e w5 ⟨rfl, hleft, -, hbel⟩
        clear cA hc0 hc1 hc2 hc3 hc4 hc5 hc6
        have bw5 := bw4.trans (hbel w.heap.size hwB)
        replace hleft := hide hleft
        clear hbel
        by_cases hr0 : r = 0
        · subst hr0
          rw [errE_zero]
          have hlf := unhide hleft
          unfold AddLeft at hlf
          rw [if_pos rfl] at hlf
          obtain ⟨ac', capc', C5⟩ := hlf
          rw [← unhide htk] at C5
          replace C5 := hide C5
          have hadd' := hide (show addAll ts [] ls = addAll ts (ls.take (k + 1)) (ls.drop (k + 1)) ∧ (ls.take (k + 1)).length ≤ 20 by
            rw [(unhide hadd).1, unhide hdk, addAll_ok (unhide hr).symm, ← unhide htk]
            refine ⟨rfl, ?_⟩
            rw [unhide htk, List.length_append]
            have := addR_len (unhide hr).symm
            simp only [List.length_singleton]
            omega)
          clear hleft hadd
          go_wp2_with fail
          refine ⟨⟨k + 1, ?_⟩, by simp [intOf]; omega⟩
          first
            | exact ⟨ac', capc', by omega, by go_num, hadd', C5, bw5⟩
            | exact ⟨by omega, by go_num, ac', capc', hadd', C5, bw5⟩
            | exact ⟨by omega, by go_num, hadd', ⟨ac', capc', C5⟩, bw5⟩
            | exact ⟨by omega, by go_num, hadd', ac', ⟨capc', C5⟩, bw5⟩
        · have hev : errE r = errV r := by simp [errE, hr0]
          rw [hev]
          have hadd' := hide (show addAll ts [] ls = r by rw [(unhide hadd).1, unhide hdk, addAll_no (by rw [← unhide hr]; exact hr0), unhide hr])
          have hr0' := hide hr0
          clear hr0 hev
          go_wp2_with fail
          refine bodyPost_ret (v := .tuple #[.pointer none, errV r]) (by simp [results, Tryz.results8, go_sem]) rfl ?_
          exact ⟨bw5, hide (.inr ⟨hS, .inr ⟨by rw [unhide hadd']; exact unhide hr0', by rw [unhide hadd']⟩⟩)⟩
      · obtain rfl : k = ls.length := by omega
        have hfin := hide (show addAll ts [] ls = 0 by rw [(unhide hadd).1, List.drop_length]; rfl)
        have C5 := unhide hC
        rw [List.take_length] at C5
        have h20 := (unhide hadd).2
        rw [List.take_length] at h20
        replace C5 := hide C5
        go_wp2_with fail
        refine bodyPost_ret (v := .tuple #[.pointer (some ⟨w2.heap.size, 0, none⟩), .nilIface]) (by simp [results, Tryz.results8, go_sem]) rfl ?_
        exact ⟨hbw, hide (.inr ⟨hS, .inl ⟨unhide hfin, w2.heap.size, a2, ac, c2, capc, rfl, hwB, h20, unhide C5⟩⟩)⟩

end Go.Proofs.YtcjpaldijngnpaaGreatDoor
