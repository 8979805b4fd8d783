/- YtpmmjkiclngpmaaGreatDoorV08 -/
import Derived.Test.YtpmmjkiclngpmaaGreatDoorV03
import Derived.Test.YtpmmjkiclngpmaaGreatDoorV01
import Derived.Test.YtpmmjkiclngpmaaGreatDoorB45
import Derived.Test.YtpmmjkiclngpmaaGreatDoorV02
set_option maxRecDepth 100000
set_option linter.unusedSimpArgs false
set_option linter.unusedVariables false
set_option maxHeartbeats 12800000
namespace Go.Proofs.YtpmmjkiclngpmaaGreatDoor
open Go.RowKit
theorem runV_ofV {Fs : List PF} {N i : Nat} {F : PF} (hF : Fs[i]? = some F) (l : List Int) (fuel : Nat) {x : Int} {f e : Nat} (h : fuel ≠ 0 → ev Fs N 99 F.cal F.params l (fuel - 1) F.body = (x,f,e)) : runV Fs N i l fuel = if fuel = 0 then (0,11) else ((if e = 0 then x else 0),e) := by
  unfold runV
  by_cases h0 : fuel = 0
  · rw [if_pos h0,if_pos h0]
  · rw [if_neg h0,if_neg h0,hF]
    simp only [h h0]
section
variable {T : List UInt8} {o : Option Ob} {cl : List Nm} {im : Option (List CF)} {q2 q4 : Nat} {e : Ex} {ps : PS} {k v : Int}
end
end Go.Proofs.YtpmmjkiclngpmaaGreatDoor
namespace Go.Proofs.YtpmmjkiclngpmaaGreatDoor
open Go.RowKit
abbrev ImgOk (s : Sto) : Prop := ∀ fs,s.img = some fs → fs.length ≤ 100000 ∧ (∀ f ∈ fs,FT f) ∧ (imText fs).length ≤ 100000000000000
abbrev RunOk (s : Sto) : Prop := ∀ fs,s.img = some fs → ImOk fs
end Go.Proofs.YtpmmjkiclngpmaaGreatDoor
