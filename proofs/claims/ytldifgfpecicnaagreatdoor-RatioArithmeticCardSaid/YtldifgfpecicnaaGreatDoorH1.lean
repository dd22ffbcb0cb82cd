/- What the laws' awake returns. -/
import Derived.Test.YtldifgfpecicnaaGreatDoorGV
import Derived.Deep.RegionHeld3
import Derived.Deep.RegionWith
namespace Go.Proofs.YtldifgfpecicnaaGreatDoor
open Go.RowKit
end Go.Proofs.YtldifgfpecicnaaGreatDoor
