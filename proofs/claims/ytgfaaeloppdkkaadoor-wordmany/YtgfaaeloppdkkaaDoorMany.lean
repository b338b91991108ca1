/-
  What WordMany answers: true; in whatever world in which the package variables stand.
-/
import Derived.Test.YtgfaaeloppdkkaaDoorManyW00
import Derived.Test.YtgfaaeloppdkkaaDoorManyW01
import Derived.Test.YtgfaaeloppdkkaaDoorManyW10
import Derived.Test.YtgfaaeloppdkkaaDoorManyW11
namespace Go.Proofs.YtgfaaeloppdkkaaDoor
open Go.RowKit Go.Shelf

theorem many8_c (n m : Int) (great : Bool) (lo : 0 ≤ n) (hi : n ≤ 255) (lo1 : 0 ≤ m) (hi1 : m ≤ 255) (w : World) (hV : Vars w) :
    Calls Tryd.prog 8 #[.int .u8 n, .int .u8 m, .bool great] w fun e w' => e = .returned (.bool true) ∧ Below w.heap.size w w' := by
  obtain ⟨K, hK⟩ : ∃ K : Nat, (K : Int) = 498 + n % 5 := ⟨(498 + n % 5).toNat, by omega⟩
  obtain ⟨J, hJ⟩ : ∃ J : Nat, (J : Int) = m % 12 + 1 := ⟨(m % 12 + 1).toNat, by omega⟩
  have a1 : 498 ≤ K := by omega
  have a2 : K ≤ 502 := by omega
  have a3 : 1 ≤ J := by omega
  have a4 : J ≤ 12 := by omega
  by_cases hk : K ≤ 500
  · by_cases hj : J ≤ 8
    · cases great
      · exact many8_skk n m K J hK hJ a1 a2 hk a3 a4 hj lo hi lo1 hi1 w hV
      · exact many8_bkk n m K J hK hJ a1 a2 hk a3 a4 hj lo hi lo1 hi1 w hV
    · cases great
      · exact many8_sko n m K J hK hJ a1 a2 hk a3 a4 hj lo hi lo1 hi1 w hV
      · exact many8_bko n m K J hK hJ a1 a2 hk a3 a4 hj lo hi lo1 hi1 w hV
  · have hk' : 500 < K := by omega
    by_cases hj : J ≤ 8
    · cases great
      · exact many8_sok n m K J hK hJ a1 a2 hk' a3 a4 hj lo hi lo1 hi1 w hV
      · exact many8_bok n m K J hK hJ a1 a2 hk' a3 a4 hj lo hi lo1 hi1 w hV
    · cases great
      · exact many8_soo n m K J hK hJ a1 a2 hk' a3 a4 hj lo hi lo1 hi1 w hV
      · exact many8_boo n m K J hK hJ a1 a2 hk' a3 a4 hj lo hi lo1 hi1 w hV

end Go.Proofs.YtgfaaeloppdkkaaDoor
