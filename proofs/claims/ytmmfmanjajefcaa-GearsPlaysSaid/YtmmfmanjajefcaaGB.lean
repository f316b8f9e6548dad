/- Layer 7: what the examples answer. -/
import Derived.Test.YtmmfmanjajefcaaGA
set_option linter.all false
namespace Go.Proofs.Ytmmfmanjajefcaa
open Go.RowKit

theorem ex_rt : rtR exms = ⟨15, 4, 0⟩ := by kernel_rfl
theorem ex_me : meV 12 8 100 5 1 = 17 ∧ meE 12 8 100 5 1 = 0 := ⟨by kernel_rfl, by kernel_rfl⟩
theorem ex_st : stE exms 9 = 0 ∧ stV exms 9 = [9, 1, 1, 3] := ⟨by kernel_rfl, by kernel_rfl⟩
theorem ex_pl : playR exms = ⟨1, 32, 0⟩ := by kernel_rfl
theorem ex_wh : whR exms 32 4 = ⟨39, 40, 0⟩ := by kernel_rfl
theorem ex_ri : riV 3 10 4 2 = 2 ∧ riE 3 10 4 2 = 0 := ⟨by kernel_rfl, by kernel_rfl⟩
theorem ex_ti : tiR exms 10 4 2 2 = ⟨4, 15, 0⟩ := by kernel_rfl
theorem ex_pr : prV exms = 48 ∧ prE exms = 0 := ⟨by kernel_rfl, by kernel_rfl⟩
end Go.Proofs.Ytmmfmanjajefcaa
