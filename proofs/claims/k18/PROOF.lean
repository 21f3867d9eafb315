import T18zh
set_option Elab.async false
set_option maxRecDepth 100000
set_option linter.all false
theorem PySem.Challenge.cw_picturetide_k18_bands_read_back_holds : PySem.Challenge.rw_picturetide_k18_bands_read_back.Holds := by
  exact L18.holds 25 ⟨rfl, by decide, by decide⟩ (L18.law_holds 0)
