/-
  Rows of texts, as lists: that a row rises says that each is below all behind it; that a sorted row rises says that none stands twice; where a name of such a row stands.
-/
import Derived.Test.YtndjoopnldnckaaSame
import Derived.Sort.Walk0
namespace Go.Proofs.Ytndjoopnldnckaa
open Go.RowKit Go.Shelf

theorem rise_each (ss : List ByteArray) : riseB ss = true ↔ ∀ j, j + 1 < ss.length → (ss[j]?.getD ByteArray.empty).data.toList < (ss[j + 1]?.getD ByteArray.empty).data.toList := by
  unfold riseB allP pairsTo upto lessP
  simp only [List.all_eq_true, List.mem_map, List.mem_range]
  constructor
  · intro h j hj
    have := h _ ⟨j, by omega, rfl⟩
    rw [Go.Proofs.bytesLess_eq, decide_eq_true_eq, ByteArray.toList_eq, ByteArray.toList_eq] at this
    exact this
  · rintro h _ ⟨j, hj, rfl⟩
    rw [Go.Proofs.bytesLess_eq, decide_eq_true_eq, ByteArray.toList_eq, ByteArray.toList_eq]
    exact h j (by omega)

theorem rise_pw (ss : List ByteArray) : riseB ss = true ↔ (ss.map fun s => s.data.toList).Pairwise (· < ·) := by
  rw [rise_each, List.pairwise_iff_getElem]
  constructor
  · intro h i j hi hj hij
    simp only [List.length_map] at hi hj
    simp only [List.getElem_map]
    obtain ⟨d, rfl⟩ : ∃ d, j = i + 1 + d := ⟨j - i - 1, by omega⟩
    clear hij
    induction d with
    | zero =>
      have := h i (by omega)
      simpa [hi, show i + 1 < ss.length by omega] using this
    | succ d ih =>
      have h1 := ih (by omega) (by omega)
      have h2 := h (i + 1 + d) (by omega)
      simp only [show i + 1 + d < ss.length by omega, show i + 1 + d + 1 < ss.length by omega, getElem?_pos, Option.getD_some] at h2
      exact List.lt_trans h1 h2
  · intro h j hj
    have := h j (j + 1) (by simp; omega) (by simp; omega) (by omega)
    simpa [hj, show j < ss.length by omega] using this

theorem bytes_txts (ns : List Txt) : (txts ns).map (fun s => s.data.toList) = bytesOf ns := by simp [txts, bytesOf]
theorem bytes_sortT (ns : List Txt) : (sortT ns).map (fun s => s.data.toList) = sortB ns := by simp [sortT, Function.comp_def]

theorem nodup_of_pw {l : List (List UInt8)} (h : l.Pairwise (· < ·)) : l.Nodup := h.imp fun hab e => by rw [e] at hab; exact List.lt_irrefl _ hab

theorem rise_nodup {ns : List Txt} (h : riseB (txts ns) = true) : (bytesOf ns).Nodup := by
  rw [rise_pw, bytes_txts] at h
  exact nodup_of_pw h

theorem rise_sort (ns : List Txt) : riseB (sortT ns) = true ↔ (bytesOf ns).Nodup := by
  have hp : (sortB ns).Perm (bytesOf ns) := List.mergeSort_perm _ _
  rw [rise_pw, bytes_sortT, ← hp.nodup_iff]
  constructor
  · exact nodup_of_pw
  · intro h
    have hs : (sortB ns).Pairwise (fun a b => decide (a ≤ b) = true) := List.pairwise_mergeSort (fun a b c h1 h2 => by
      rw [decide_eq_true_eq] at *
      exact List.le_trans h1 h2) (fun a b => by
      rcases List.le_total a b with h | h
      · simp [h]
      · simp [h]) _
    refine (hs.and h).imp ?_
    rintro a b ⟨h1, h2⟩
    rw [decide_eq_true_eq] at h1
    rcases Std.lt_trichotomy (α := List UInt8) a b with h3 | h3 | h3
    · exact h3
    · exact absurd h3 h2
    · exact absurd h3 h1

theorem eqT_iff (nm : ByteArray) (x : Txt) : eqT nm x = true ↔ x.1.data.toList = nm.data.toList := by
  unfold eqT
  rw [beq_iff_eq, ByteArray.toList_eq, ByteArray.toList_eq]

/-- In a row without doubles each name stands where it stands. -/
theorem place_self {ns : List Txt} (h : (bytesOf ns).Nodup) (k : Nat) (hk : k < ns.length) : placeN ns (tx ns k) = some k := by
  unfold placeN
  rw [List.findIdx?_eq_some_iff_getElem]
  refine ⟨hk, ?_, ?_⟩
  · rw [eqT_iff]; simp [tx, hk]
  · intro j hj
    rw [eqT_iff]
    intro e
    have hn := List.pairwise_iff_getElem.1 h j k (by simp [bytesOf]; omega) (by simp [bytesOf]; omega) hj
    apply hn
    simp only [bytesOf, List.getElem_map]
    rw [e]
    simp [tx, hk]

/-- A name is found just where one of the row has its bytes. -/
theorem place_isSome (ns : List Txt) (nm : ByteArray) : (placeN ns nm).isSome = ns.any (eqT nm) := by
  simp [placeN, List.findIdx?_isSome]

end Go.Proofs.Ytndjoopnldnckaa
