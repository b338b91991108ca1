/-
  The value, the condition, the pattern that known of package pasternlaw8 asks for, and their texts.
-/
import Derived.Test.YtfofpenajkaalaaDoorTellsS
namespace Go.Proofs.YtfofpenajkaalaaDoor
open Go.RowKit Go.Shelf

def tx (l : List UInt8) (h : l.length ≤ 16 := by decide) : Txt := ⟨⟨l.toArray⟩, by show l.toArray.size ≤ maxLen; rw [List.size_toArray]; unfold maxLen; omega⟩
def kL : Tree := .mk ⟨2, 0, 0, tx [], tx [97], tx [120]⟩ []
def kR : Tree := .mk ⟨1, 1, -3, tx [], tx [], tx []⟩ []
def kX : Tree := .mk ⟨8, 0, 0, tx [], tx [], tx []⟩ [kL, kR]
def kP : Pt := ⟨[⟨tx [97], [tx [116], tx [117]], true, false, kX⟩, ⟨tx [110], [tx [116]], false, true, .mk d0 []⟩, ⟨tx [98], [tx [117]], false, false, .mk d0 []⟩], 7, tx [105, 100], true⟩
def kO : Pt := ⟨[], 0, tx [], false⟩
theorem kX_is : isT kX = true := by kernel_rfl
theorem kP_is : patB kP = true := by kernel_rfl
theorem kO_is : patB kO = false := by kernel_rfl
theorem itoa_m3 : Lib.itoa (-3) = [45, 51] := by
  unfold Lib.itoa
  rw [if_pos (by decide)]
  show 45 :: Lib.decDigits 3 = _
  rw [Lib.decDigits, dif_pos (by decide)]
  rfl
theorem itoa_7 : Lib.itoa 7 = [55] := by
  unfold Lib.itoa
  rw [if_neg (by decide)]
  show Lib.decDigits 7 = _
  rw [Lib.decDigits, dif_pos (by decide)]
  rfl
theorem litR : litP 1 (-3) ⟨#[]⟩ = [⟨#[45, 51]⟩] := by
  unfold litP
  rw [if_neg (by decide), if_neg (by decide), itoa_m3]
theorem condX : condP kX = [[opB], [⟨#[97]⟩, dotB, ⟨#[120]⟩], [blB, ⟨#[60]⟩, blB], [⟨#[45, 51]⟩], [clB]].flatten := by
  have e1 : condP kR = [⟨#[45, 51]⟩] := litR
  have e2 : condP kX = [[opB], condP kL, [blB, sgB 8, blB], condP kR, [clB]].flatten := rfl
  rw [e2, e1]
  rfl
theorem exprB_kX : exprB kX = ⟨#[40, 97, 46, 120, 32, 60, 32, 45, 51, 41]⟩ := by
  rw [exprB_yes kX_is, condX]
  kernel_rfl
theorem valB_k : valB 2 0 ⟨#[113, 34]⟩ = ⟨#[34, 113, 92, 34, 34]⟩ := by kernel_rfl
theorem valB_0 : valB 0 0 ⟨#[]⟩ = ⟨#[]⟩ := by kernel_rfl
theorem pattB_kO : pattB kO = ⟨#[]⟩ := pattB_no kO_is
theorem pattB_kP : pattB kP = ⟨#[83, 69, 81, 40, 97, 58, 116, 124, 117, 43, 91, 40, 97, 46, 120, 32, 60, 32, 45, 51, 41, 93, 44, 32, 33, 110, 58, 116, 44, 32, 98, 58, 117, 41, 32, 87, 73, 84, 72, 73, 78, 32, 55, 32, 66, 89, 32, 105, 100, 32, 65, 78, 89]⟩ := by
  rw [pattB_yes kP_is, patT]
  have e1 : itoaB kP.wi = ⟨#[55]⟩ := by show (⟨(Lib.itoa 7).toArray⟩ : ByteArray) = _; rw [itoa_7]
  have e2 : rowT kP.es = ⟨#[83, 69, 81, 40, 97, 58, 116, 124, 117, 43, 91, 40, 97, 46, 120, 32, 60, 32, 45, 51, 41, 93, 44, 32, 33, 110, 58, 116, 44, 32, 98, 58, 117]⟩ := by
    have e3 : askP kX = [[obB], condP kX, [cbB]].flatten := rfl
    have e4 : rowS kP.es = [[], [[], [⟨#[97]⟩, coB, joinB [tx [116], tx [117]]], [plB], askP kX].flatten, [csB], [[exB], [⟨#[110]⟩, coB, joinB [tx [116]]], [], []].flatten, [csB], [[], [⟨#[98]⟩, coB, joinB [tx [117]]], [], []].flatten] := rfl
    unfold rowT
    rw [e4, e3, condX]
    exact eq_of_list (by kernel_rfl)
  rw [e1, e2]
  exact eq_of_list (by kernel_rfl)

end Go.Proofs.YtfofpenajkaalaaDoor
