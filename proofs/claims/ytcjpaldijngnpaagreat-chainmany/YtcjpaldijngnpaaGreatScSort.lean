/-
  What slices.Collect, slices.Sort and slices.Sorted make of a walk over names: a new row of them; in their order, and sorted byte by byte; for every walk, in whatever world; nothing that lay is turned. The library's sort by its contract, laid at this program.
-/
import Derived.Test.YtcjpaldijngnpaaGreatScCollect
import Derived.Shelf.Sort.Plain
import Derived.Shelf.Slices.In.SortNone
import Derived.Sort.OwnSorted
namespace Go.Proofs.YtcjpaldijngnpaaGreat.Sc
open Go.Shelf Go.RowKit

def lays190_ren : Go.Shelf.Ren := ⟨fun | 190 => 75 | 125 => 84 | 258 => 83 | 128 => 96 | 129 => 97 | 302 => 87 | 303 => 88 | 304 => 89 | 305 => 90 | 306 => 91 | 307 => 92 | 308 => 93 | 309 => 94 | 310 => 95 | 333 => 98 | 329 => 99 | 330 => 100 | 334 => 101 | 335 => 102 | 336 => 103 | 344 => 104 | n => n, fun | 31 => 89 | 9 => 9 | 3 => 3 | 46 => 160 | 0 => 0 | 51 => 173 | 53 => 175 | 4 => 4 | 183 => 166 | 182 => 165 | 131 => 170 | 5 => 5 | 218 => 176 | 222 => 180 | 228 => 182 | 229 => 183 | n => n, fun | n => n⟩

theorem lays190 : Go.Proofs.Lays.n190 Tryz.prog lays190_ren := {
  mixed := by kernel_rfl
  f125 := Tryz.func84.trans (congrArg some (by kernel_rfl))
  f128 := Tryz.func96.trans (congrArg some (by kernel_rfl))
  f129 := Tryz.func97.trans (congrArg some (by kernel_rfl))
  f190 := Tryz.func75.trans (congrArg some (by kernel_rfl))
  f258 := Tryz.func83.trans (congrArg some (by kernel_rfl))
  f302 := Tryz.func87.trans (congrArg some (by kernel_rfl))
  f303 := Tryz.func88.trans (congrArg some (by kernel_rfl))
  f304 := Tryz.func89.trans (congrArg some (by kernel_rfl))
  f305 := Tryz.func90.trans (congrArg some (by kernel_rfl))
  f306 := Tryz.func91.trans (congrArg some (by kernel_rfl))
  f307 := Tryz.func92.trans (congrArg some (by kernel_rfl))
  f308 := Tryz.func93.trans (congrArg some (by kernel_rfl))
  f309 := Tryz.func94.trans (congrArg some (by kernel_rfl))
  f310 := Tryz.func95.trans (congrArg some (by kernel_rfl))
  f329 := Tryz.func99.trans (congrArg some (by kernel_rfl))
  f330 := Tryz.func100.trans (congrArg some (by kernel_rfl))
  f333 := Tryz.func98.trans (congrArg some (by kernel_rfl))
  f334 := Tryz.func101.trans (congrArg some (by kernel_rfl))
  f335 := Tryz.func102.trans (congrArg some (by kernel_rfl))
  f336 := Tryz.func103.trans (congrArg some (by kernel_rfl))
  f344 := Tryz.func104.trans (congrArg some (by kernel_rfl))
  t0 := Tryz.underlying0
  a0 := Tryz.isAgg0
  z0 := Tryz.sizeOf0
  v0 := Tryz.zeroValue0
  t3 := Tryz.underlying3
  a3 := Tryz.isAgg3
  z3 := Tryz.sizeOf3
  v3 := Tryz.zeroValue3
  t4 := Tryz.underlying4
  a4 := Tryz.isAgg4
  z4 := Tryz.sizeOf4
  v4 := Tryz.zeroValue4
  t5 := Tryz.underlying5
  a5 := Tryz.isAgg5
  z5 := Tryz.sizeOf5
  v5 := Tryz.zeroValue5
  t9 := Tryz.underlying9
  a9 := Tryz.isAgg9
  z9 := Tryz.sizeOf9
  v9 := Tryz.zeroValue9
  t31 := Tryz.underlying89
  a31 := Tryz.isAgg89
  z31 := Tryz.sizeOf89
  v31 := Tryz.zeroValue89
  t46 := Tryz.underlying160
  a46 := Tryz.isAgg160
  z46 := Tryz.sizeOf160
  v46 := Tryz.zeroValue160
  t51 := Tryz.underlying173
  a51 := Tryz.isAgg173
  z51 := Tryz.sizeOf173
  v51 := Tryz.zeroValue173
  t53 := Tryz.underlying175
  a53 := Tryz.isAgg175
  z53 := Tryz.sizeOf175
  v53 := Tryz.zeroValue175
  t131 := Tryz.underlying170
  a131 := Tryz.isAgg170
  z131 := Tryz.sizeOf170
  v131 := Tryz.zeroValue170
  t182 := Tryz.underlying165
  a182 := Tryz.isAgg165
  z182 := Tryz.sizeOf165
  v182 := Tryz.zeroValue165
  t183 := Tryz.underlying166
  a183 := Tryz.isAgg166
  z183 := Tryz.sizeOf166
  v183 := Tryz.zeroValue166
  t218 := Tryz.underlying176
  a218 := Tryz.isAgg176
  z218 := Tryz.sizeOf176
  v218 := Tryz.zeroValue176
  t222 := Tryz.underlying180
  a222 := Tryz.isAgg180
  z222 := Tryz.sizeOf180
  v222 := Tryz.zeroValue180
  t228 := Tryz.underlying182
  a228 := Tryz.isAgg182
  z228 := Tryz.sizeOf182
  v228 := Tryz.zeroValue182
  t229 := Tryz.underlying183
  a229 := Tryz.isAgg183
  z229 := Tryz.sizeOf183
  v229 := Tryz.zeroValue183 }




theorem strs_of_owns {W : World} {base n : Nat} {v : Value} {ss : List ByteArray} (h : W.ownsRow base 9 1 v n (ss.map Value.string)) : Strs W.heap.size W v ss := by
  have hn : ss.length = n := by have := h.1; simpa using this
  rcases h.2 with ⟨rfl, h0⟩ | ⟨g, cap, cur, rfl, _, hg, _, _, _, htake⟩
  · exact .inl ⟨_, _, rfl, List.length_eq_zero_iff.1 (by omega)⟩
  · refine .inr ⟨g, 0, cap, by rw [hn], (Array.getElem?_eq_some_iff.1 hg).1, fun j hj => ?_⟩
    have e2 : (cur.toList.take (n * 1))[j]? = cur[j]? := by rw [List.getElem?_take, if_pos (by omega), Array.getElem?_toList]
    rw [htake] at e2
    simp only [Nat.zero_add, World.cell?, hg]
    simp at e2
    simp [← e2, hj]

theorem collect13o (g Bs : Nat) (ns : List Txt) (w : World) (hG : Gives w g Bs ns) :
    Calls Tryz.prog 33 #[.func (.func g) #[] #[.pointer (some ⟨Bs, 0, none⟩)]] w fun e W' => ∃ v, e = .returned v ∧ W'.ownsRow w.heap.size 9 1 v ns.length (ns.map fun x => Value.string x.1) ∧ (v = .slice none 0 0 ↔ ns = []) ∧ Below w.heap.size w W' := by
  go_enter Tryz.func33, Tryz.ntmps33
  go_wp2_with (go_at_call 53; refine (callsIn_wide.1 (appendSeq_in 3 (Nat.le_refl _) g Bs ns w hG)).mono ?_; rintro e W' ⟨v, rfl, ho, hn, hb⟩)
  go_ret
  exact ⟨v, rfl, ho, hn, hb⟩

theorem strs_form {n₀ : Nat} {W : World} {v : Value} {ss : List ByteArray} (h : Strs n₀ W v ss) : ∃ a c, v = .slice a ss.length c := by
  rcases h with ⟨_, _, rfl, rfl⟩ | ⟨b, off, c, rfl, _⟩
  · exact ⟨_, _, rfl⟩
  · exact ⟨_, _, rfl⟩

/-- The texts, as they stand. -/
def txts (ns : List Txt) : List ByteArray := ns.map fun x => x.1

theorem collect13 (g Bs : Nat) (ns : List Txt) (w : World) (hG : Gives w g Bs ns) :
    Calls Tryz.prog 33 #[.func (.func g) #[] #[.pointer (some ⟨Bs, 0, none⟩)]] w fun e W' => ∃ a c, e = .returned (.slice a ns.length c) ∧ Strs W'.heap.size W' (.slice a ns.length c) (txts ns) ∧ Below w.heap.size w W' := by
  refine (collect13o g Bs ns w hG).mono ?_
  rintro e W' ⟨v, rfl, ho, _, hb⟩
  have hs : Strs W'.heap.size W' v (txts ns) := strs_of_owns (n := ns.length) (base := w.heap.size) (by simpa [txts, Function.comp_def] using ho)
  obtain ⟨a, c, rfl⟩ := strs_form hs
  refine ⟨a, c, by simp [txts], by simpa [txts] using hs, hb⟩

/-- The bytes of each. -/
def bytesOf (ns : List Txt) : List (List UInt8) := ns.map fun x => x.1.data.toList
def sortB (ns : List Txt) : List (List UInt8) := (bytesOf ns).mergeSort fun x y => decide (x ≤ y)
/-- The texts, sorted. -/
def sortT (ns : List Txt) : List ByteArray := (sortB ns).map fun l => ⟨l.toArray⟩
theorem sortT_len (ns : List Txt) : (sortT ns).length = ns.length := by simp [sortT, sortB, bytesOf]

theorem sorted26 (g Bs : Nat) (ns : List Txt) (w : World) (hG : Gives w g Bs ns) :
    Calls Tryz.prog 56 #[.func (.func g) #[] #[.pointer (some ⟨Bs, 0, none⟩)]] w fun e W' => ∃ a c, e = .returned (.slice a ns.length c) ∧ Strs W'.heap.size W' (.slice a ns.length c) (sortT ns) ∧ Below w.heap.size w W' := by
  have h5 : ns.length ≤ 5 := hG.2.1
  go_enter Tryz.func56, Tryz.ntmps56
  go_wp2_with (go_at_call 33; refine (collect13o g Bs ns w hG).mono ?_; rintro e W ⟨v, rfl, hrow, hnil, hb⟩)
  rcases hrow.2 with ⟨rfl, hz⟩ | ⟨gb, cap, cur, rfl, hbase, hgb, r1, r2, r3, r4⟩
  · have hss : ns = [] := List.eq_nil_of_length_eq_zero hz
    subst hss
    go_wp2_with (go_at_call 75; refine (Any.slices_Sort_string_none lays190 none 0 W).mono ?_; rintro e w' ⟨rfl, rfl⟩)
    go_ret
    exact ⟨_, _, rfl, .inl ⟨_, _, rfl, List.length_eq_zero_iff.1 (sortT_len [])⟩, hb⟩
  · have e1 : (bytesOf ns).length = ns.length := by simp [bytesOf]
    have e2 : (ns.map fun x => Value.string x.1) = (bytesOf ns).map encStr := by simp [bytesOf]
    have hH : Sort.Holds encStr W gb 0 (bytesOf ns).toArray := holds_of_block hgb (by rw [e1, ← e2]; simpa using r4)
    have hgl : gb < W.heap.size := (Array.getElem?_eq_some_iff.1 hgb).1
    have hsz : (bytesOf ns).length < 4611686018427387904 := by omega
    have cS := Any.slices_Sort_string lays190 gb 0 cap (bytesOf ns) W hH hgl hsz
    rw [e1] at cS
    go_wp2_with (go_at_call 75; refine cS.mono ?_; rintro e w' ⟨rfl, nn, os, rfl⟩)
    go_ret
    refine ⟨_, _, rfl, ?_, hb.grown (grownBy_sorted _) hb.size (fun j hj => by cases hj; exact hbase)⟩
    have ho := ownsRow_sorted (n := nn) (os := os) (ss := bytesOf ns) (ts := sortB ns) (by simp [sortB]) hbase hgb (by rw [e1]; exact r1) r2 r3
    rw [e1] at ho
    exact strs_of_owns (n := ns.length) (base := w.heap.size) (by simpa [sortT, sortB, Function.comp_def] using ho)


end Go.Proofs.YtcjpaldijngnpaaGreat.Sc
