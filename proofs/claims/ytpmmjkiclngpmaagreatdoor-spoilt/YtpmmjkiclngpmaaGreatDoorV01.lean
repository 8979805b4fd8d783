/- YtpmmjkiclngpmaaGreatDoorV01 -/
import Derived.Test.YtpmmjkiclngpmaaGreatDoorB08
import Derived.Test.YtpmmjkiclngpmaaGreatDoorB43
import Derived.Test.YtpmmjkiclngpmaaGreatDoorB25
import Derived.Test.YtpmmjkiclngpmaaGreatDoorB11
import Derived.Test.YtpmmjkiclngpmaaGreatDoorB22
import Derived.Test.YtpmmjkiclngpmaaGreatDoorB42
import Derived.Test.YtpmmjkiclngpmaaGreatDoorB44
set_option maxRecDepth 100000
set_option linter.unusedSimpArgs false
set_option linter.unusedVariables false
set_option maxHeartbeats 12800000
namespace Go.Proofs.YtpmmjkiclngpmaaGreatDoor
open Go.RowKit
end Go.Proofs.YtpmmjkiclngpmaaGreatDoor
namespace Go.Proofs.YtpmmjkiclngpmaaGreatDoor
open Go.RowKit
end Go.Proofs.YtpmmjkiclngpmaaGreatDoor
namespace Go.Proofs.YtpmmjkiclngpmaaGreatDoor
open Go.RowKit
def All2 {α β : Type} (Q : α → β → Prop) : List α → List β → Prop
  | [],[] => True
  | a :: l,b :: r => Q a b ∧ All2 Q l r
  | _,_ => False
theorem All2.map {α β γ : Type} {Q : γ → β → Prop} {f : α → γ} : ∀ {l : List α} {r : List β},All2 (fun a b => Q (f a) b) l r → All2 Q (l.map f) r
  | [],[],_ => trivial
  | _ :: _,_ :: _,h => ⟨h.1,h.2.map⟩
  | [],_ :: _,h => h.elim
  | _ :: _,[],h => h.elim
end Go.Proofs.YtpmmjkiclngpmaaGreatDoor
namespace Go.Proofs.YtpmmjkiclngpmaaGreatDoor
open Go.RowKit
def Two (t : Nat) : Prop := t = 1 ∨ t = 2
end Go.Proofs.YtpmmjkiclngpmaaGreatDoor
namespace Go.Proofs.YtpmmjkiclngpmaaGreatDoor
open Go.RowKit
section
variable {g : Ex → KS → Nat × KS} {Q : List Nm → Ex → Prop} {sc : List (Nm × Nat)}
end
end Go.Proofs.YtpmmjkiclngpmaaGreatDoor
namespace Go.Proofs.YtpmmjkiclngpmaaGreatDoor
open Go.RowKit
section
variable {L : List Md} {E : Nm → Option Mod}
end
end Go.Proofs.YtpmmjkiclngpmaaGreatDoor
