/- package verb: fits, kind by kind. (Written by program.) -/
import Derived.Test.YtfignanjelebaaaYFitA
import Derived.Test.YtfignanjelebaaaYFitB
import Derived.Laws.EntriesVeiled
namespace Go.Proofs.Ytfignanjelebaaa
open Go.RowKit
set_option linter.unusedVariables false
theorem fits_any (v : Vb) (A : Option Addr) (n c : Nat) (hn : v.d.length = n) (w : World) : Calls Try.prog 41 #[.agg (vc v A n c).toArray] w fun e w' => e = .returned (.bool (decide v.fit)) ∧ Below w.heap.size w w' := by
  by_cases h1 : v.k = 1
  · exact fits_1 v A n c hn h1 w
  by_cases h2 : v.k = 2
  · exact fits_2 v A n c hn h2 w
  by_cases h3 : v.k = 3
  · exact fits_3 v A n c hn h3 w
  by_cases h4 : v.k = 4
  · exact fits_4 v A n c hn h4 w
  by_cases h5 : v.k = 5
  · exact fits_5 v A n c hn h5 w
  by_cases h6 : v.k = 6
  · exact fits_6 v A n c hn h6 w
  by_cases h7 : v.k = 7
  · exact fits_7 v A n c hn h7 w
  by_cases h8 : v.k = 8
  · exact fits_8 v A n c hn h8 w
  by_cases h9 : v.k = 9
  · exact fits_9 v A n c hn h9 w
  by_cases h10 : v.k = 10
  · exact fits_10 v A n c hn h10 w
  by_cases h11 : v.k = 11
  · exact fits_11 v A n c hn h11 w
  by_cases h12 : v.k = 12
  · exact fits_12 v A n c hn h12 w
  by_cases h13 : v.k = 13
  · exact fits_13 v A n c hn h13 w
  by_cases h14 : v.k = 14
  · exact fits_14 v A n c hn h14 w
  by_cases h15 : v.k = 15
  · exact fits_15 v A n c hn h15 w
  exact fits_none v A n c ⟨h1, h2, h3, h4, h5, h6, h7, h8, h9, h10, h11, h12, h13, h14, h15⟩ w
end Go.Proofs.Ytfignanjelebaaa
