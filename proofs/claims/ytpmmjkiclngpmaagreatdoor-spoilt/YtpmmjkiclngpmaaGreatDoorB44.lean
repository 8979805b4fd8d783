/- YtpmmjkiclngpmaaGreatDoorB44 -/
import Derived.Test.YtpmmjkiclngpmaaGreatDoorB41
import Derived.Laws.StructEq
import Derived.Test.YtpmmjkiclngpmaaGreatDoorB43
set_option maxRecDepth 100000
set_option linter.unusedSimpArgs false
set_option linter.unusedVariables false
set_option maxHeartbeats 12800000
namespace Go.Proofs.YtpmmjkiclngpmaaGreatDoor
open Go.RowKit Go.Lib
end Go.Proofs.YtpmmjkiclngpmaaGreatDoor
namespace Go.Proofs.YtpmmjkiclngpmaaGreatDoor
open Go.RowKit
end Go.Proofs.YtpmmjkiclngpmaaGreatDoor
