/- YtpmmjkiclngpmaaGreatDoorB43 -/
import Derived.Test.YtpmmjkiclngpmaaGreatDoorB07
import Derived.Test.YtpmmjkiclngpmaaGreatDoorB06
import Derived.Deep.DeepCutAuto
import Derived.Deep.LoopGhost
set_option maxRecDepth 100000
set_option linter.unusedSimpArgs false
set_option linter.unusedVariables false
set_option maxHeartbeats 12800000
namespace Go.Proofs.YtpmmjkiclngpmaaGreatDoor
open Go.RowKit
end Go.Proofs.YtpmmjkiclngpmaaGreatDoor
namespace Go.Proofs.YtpmmjkiclngpmaaGreatDoor
open Go.RowKit
end Go.Proofs.YtpmmjkiclngpmaaGreatDoor
namespace Go.Proofs.YtpmmjkiclngpmaaGreatDoor
open Go.RowKit
end Go.Proofs.YtpmmjkiclngpmaaGreatDoor
namespace Go.Proofs.YtpmmjkiclngpmaaGreatDoor
open Go.RowKit
end Go.Proofs.YtpmmjkiclngpmaaGreatDoor
namespace Go.Proofs.YtpmmjkiclngpmaaGreatDoor
open Go.RowKit
def Args (w : World) (ao : Option Addr) (l : List Int) : Prop := (ao = none → l = []) ∧ ∀ ad,ao = some ad → ∀ j u,(l.map (Value.int .i64))[j]? = some u → w.cell? (ad.add j) = some u ∧ ad.block < w.heap.size
end Go.Proofs.YtpmmjkiclngpmaaGreatDoor
