/-
  What slices.Collect, slices.Sort and slices.Sorted make of a walk over names: a new row of them; in their order, and sorted byte by byte; for every walk, in whatever world; nothing that lay is turned. The library's sort by its contract, laid at this program.
-/
import Derived.Test.YtndjoopnldnckaaCollect
import Derived.Shelf.Sort.Plain
import Derived.Shelf.Slices.In.SortNone
import Derived.Sort.OwnSorted
namespace Go.Proofs.Ytndjoopnldnckaa
open Go.Shelf Go.RowKit

def lays190_ren : Go.Shelf.Ren := ⟨fun | 190 => 34 | 125 => 40 | 258 => 39 | 128 => 52 | 129 => 53 | 302 => 43 | 303 => 44 | 304 => 45 | 305 => 46 | 306 => 47 | 307 => 48 | 308 => 49 | 309 => 50 | 310 => 51 | 333 => 54 | 329 => 55 | 330 => 56 | 334 => 57 | 335 => 58 | 336 => 59 | 344 => 60 | n => n, fun | 31 => 44 | 9 => 9 | 3 => 3 | 46 => 79 | 0 => 0 | 51 => 92 | 53 => 94 | 4 => 4 | 183 => 85 | 182 => 84 | 131 => 89 | 5 => 5 | 218 => 95 | 222 => 99 | 228 => 101 | 229 => 102 | n => n, fun | n => n⟩
theorem lays190 : Go.Proofs.Lays.n190 Try.prog lays190_ren := {
  mixed := by kernel_rfl
  f125 := Try.func40.trans (congrArg some (by kernel_rfl))
  f128 := Try.func52.trans (congrArg some (by kernel_rfl))
  f129 := Try.func53.trans (congrArg some (by kernel_rfl))
  f190 := Try.func34.trans (congrArg some (by kernel_rfl))
  f258 := Try.func39.trans (congrArg some (by kernel_rfl))
  f302 := Try.func43.trans (congrArg some (by kernel_rfl))
  f303 := Try.func44.trans (congrArg some (by kernel_rfl))
  f304 := Try.func45.trans (congrArg some (by kernel_rfl))
  f305 := Try.func46.trans (congrArg some (by kernel_rfl))
  f306 := Try.func47.trans (congrArg some (by kernel_rfl))
  f307 := Try.func48.trans (congrArg some (by kernel_rfl))
  f308 := Try.func49.trans (congrArg some (by kernel_rfl))
  f309 := Try.func50.trans (congrArg some (by kernel_rfl))
  f310 := Try.func51.trans (congrArg some (by kernel_rfl))
  f329 := Try.func55.trans (congrArg some (by kernel_rfl))
  f330 := Try.func56.trans (congrArg some (by kernel_rfl))
  f333 := Try.func54.trans (congrArg some (by kernel_rfl))
  f334 := Try.func57.trans (congrArg some (by kernel_rfl))
  f335 := Try.func58.trans (congrArg some (by kernel_rfl))
  f336 := Try.func59.trans (congrArg some (by kernel_rfl))
  f344 := Try.func60.trans (congrArg some (by kernel_rfl))
  t0 := Try.underlying0
  a0 := Try.isAgg0
  z0 := Try.sizeOf0
  v0 := Try.zeroValue0
  t3 := Try.underlying3
  a3 := Try.isAgg3
  z3 := Try.sizeOf3
  v3 := Try.zeroValue3
  t4 := Try.underlying4
  a4 := Try.isAgg4
  z4 := Try.sizeOf4
  v4 := Try.zeroValue4
  t5 := Try.underlying5
  a5 := Try.isAgg5
  z5 := Try.sizeOf5
  v5 := Try.zeroValue5
  t9 := Try.underlying9
  a9 := Try.isAgg9
  z9 := Try.sizeOf9
  v9 := Try.zeroValue9
  t31 := Try.underlying44
  a31 := Try.isAgg44
  z31 := Try.sizeOf44
  v31 := Try.zeroValue44
  t46 := Try.underlying79
  a46 := Try.isAgg79
  z46 := Try.sizeOf79
  v46 := Try.zeroValue79
  t51 := Try.underlying92
  a51 := Try.isAgg92
  z51 := Try.sizeOf92
  v51 := Try.zeroValue92
  t53 := Try.underlying94
  a53 := Try.isAgg94
  z53 := Try.sizeOf94
  v53 := Try.zeroValue94
  t131 := Try.underlying89
  a131 := Try.isAgg89
  z131 := Try.sizeOf89
  v131 := Try.zeroValue89
  t182 := Try.underlying84
  a182 := Try.isAgg84
  z182 := Try.sizeOf84
  v182 := Try.zeroValue84
  t183 := Try.underlying85
  a183 := Try.isAgg85
  z183 := Try.sizeOf85
  v183 := Try.zeroValue85
  t218 := Try.underlying95
  a218 := Try.isAgg95
  z218 := Try.sizeOf95
  v218 := Try.zeroValue95
  t222 := Try.underlying99
  a222 := Try.isAgg99
  z222 := Try.sizeOf99
  v222 := Try.zeroValue99
  t228 := Try.underlying101
  a228 := Try.isAgg101
  z228 := Try.sizeOf101
  v228 := Try.zeroValue101
  t229 := Try.underlying102
  a229 := Try.isAgg102
  z229 := Try.sizeOf102
  v229 := Try.zeroValue102 }

theorem strs_of_owns {W : World} {base n : Nat} {v : Value} {ss : List ByteArray} (h : W.ownsRow base 9 1 v n (ss.map Value.string)) : Strs W.heap.size W v ss := by
  have hn : ss.length = n := by have := h.1; simpa using this
  rcases h.2 with ⟨rfl, h0⟩ | ⟨g, cap, cur, rfl, _, hg, _, _, _, htake⟩
  · exact .inl ⟨_, _, rfl, List.length_eq_zero_iff.1 (by omega)⟩
  · refine .inr ⟨g, 0, cap, by rw [hn], (Array.getElem?_eq_some_iff.1 hg).1, fun j hj => ?_⟩
    have e2 : (cur.toList.take (n * 1))[j]? = cur[j]? := by rw [List.getElem?_take, if_pos (by omega), Array.getElem?_toList]
    rw [htake] at e2
    simp only [Nat.zero_add, World.cell?, hg]
    simp at e2
    simp [← e2, hj]

theorem collect13o (g Bs : Nat) (ns : List Txt) (w : World) (hG : Gives w g Bs ns) :
    Calls Try.prog 13 #[.func (.func g) #[] #[.pointer (some ⟨Bs, 0, none⟩)]] w fun e W' => ∃ v, e = .returned v ∧ W'.ownsRow w.heap.size 9 1 v ns.length (ns.map fun x => Value.string x.1) ∧ (v = .slice none 0 0 ↔ ns = []) ∧ Below w.heap.size w W' := by
  go_enter Try.func13, Try.ntmps13
  go_wp2_with (go_at_call 24; refine (callsIn_wide.1 (appendSeq_in 3 (Nat.le_refl _) g Bs ns w hG)).mono ?_; rintro e W' ⟨v, rfl, ho, hn, hb⟩)
  go_ret
  exact ⟨v, rfl, ho, hn, hb⟩

theorem strs_form {n₀ : Nat} {W : World} {v : Value} {ss : List ByteArray} (h : Strs n₀ W v ss) : ∃ a c, v = .slice a ss.length c := by
  rcases h with ⟨_, _, rfl, rfl⟩ | ⟨b, off, c, rfl, _⟩
  · exact ⟨_, _, rfl⟩
  · exact ⟨_, _, rfl⟩

/-- The texts, as they stand. -/
def txts (ns : List Txt) : List ByteArray := ns.map fun x => x.1

theorem collect13 (g Bs : Nat) (ns : List Txt) (w : World) (hG : Gives w g Bs ns) :
    Calls Try.prog 13 #[.func (.func g) #[] #[.pointer (some ⟨Bs, 0, none⟩)]] w fun e W' => ∃ a c, e = .returned (.slice a ns.length c) ∧ Strs W'.heap.size W' (.slice a ns.length c) (txts ns) ∧ Below w.heap.size w W' := by
  refine (collect13o g Bs ns w hG).mono ?_
  rintro e W' ⟨v, rfl, ho, _, hb⟩
  have hs : Strs W'.heap.size W' v (txts ns) := strs_of_owns (n := ns.length) (base := w.heap.size) (by simpa [txts, Function.comp_def] using ho)
  obtain ⟨a, c, rfl⟩ := strs_form hs
  refine ⟨a, c, by simp [txts], by simpa [txts] using hs, hb⟩

/-- The bytes of each. -/
def bytesOf (ns : List Txt) : List (List UInt8) := ns.map fun x => x.1.data.toList
def sortB (ns : List Txt) : List (List UInt8) := (bytesOf ns).mergeSort fun x y => decide (x ≤ y)
/-- The texts, sorted. -/
def sortT (ns : List Txt) : List ByteArray := (sortB ns).map fun l => ⟨l.toArray⟩
theorem sortT_len (ns : List Txt) : (sortT ns).length = ns.length := by simp [sortT, sortB, bytesOf]

theorem sorted26 (g Bs : Nat) (ns : List Txt) (w : World) (hG : Gives w g Bs ns) :
    Calls Try.prog 26 #[.func (.func g) #[] #[.pointer (some ⟨Bs, 0, none⟩)]] w fun e W' => ∃ a c, e = .returned (.slice a ns.length c) ∧ Strs W'.heap.size W' (.slice a ns.length c) (sortT ns) ∧ Below w.heap.size w W' := by
  have h5 : ns.length ≤ 5 := hG.2.1
  go_enter Try.func26, Try.ntmps26
  go_wp2_with (go_at_call 13; refine (collect13o g Bs ns w hG).mono ?_; rintro e W ⟨v, rfl, hrow, hnil, hb⟩)
  rcases hrow.2 with ⟨rfl, hz⟩ | ⟨gb, cap, cur, rfl, hbase, hgb, r1, r2, r3, r4⟩
  · have hss : ns = [] := List.eq_nil_of_length_eq_zero hz
    subst hss
    go_wp2_with (go_at_call 34; refine (Any.slices_Sort_string_none lays190 none 0 W).mono ?_; rintro e w' ⟨rfl, rfl⟩)
    go_ret
    exact ⟨_, _, rfl, .inl ⟨_, _, rfl, List.length_eq_zero_iff.1 (sortT_len [])⟩, hb⟩
  · have e1 : (bytesOf ns).length = ns.length := by simp [bytesOf]
    have e2 : (ns.map fun x => Value.string x.1) = (bytesOf ns).map encStr := by simp [bytesOf]
    have hH : Sort.Holds encStr W gb 0 (bytesOf ns).toArray := holds_of_block hgb (by rw [e1, ← e2]; simpa using r4)
    have hgl : gb < W.heap.size := (Array.getElem?_eq_some_iff.1 hgb).1
    have hsz : (bytesOf ns).length < 4611686018427387904 := by omega
    have cS := Any.slices_Sort_string lays190 gb 0 cap (bytesOf ns) W hH hgl hsz
    rw [e1] at cS
    go_wp2_with (go_at_call 34; refine cS.mono ?_; rintro e w' ⟨rfl, nn, os, rfl⟩)
    go_ret
    refine ⟨_, _, rfl, ?_, hb.grown (grownBy_sorted _) hb.size (fun j hj => by cases hj; exact hbase)⟩
    have ho := ownsRow_sorted (n := nn) (os := os) (ss := bytesOf ns) (ts := sortB ns) (by simp [sortB]) hbase hgb (by rw [e1]; exact r1) r2 r3
    rw [e1] at ho
    exact strs_of_owns (n := ns.length) (base := w.heap.size) (by simpa [sortT, sortB, Function.comp_def] using ho)


end Go.Proofs.Ytndjoopnldnckaa
