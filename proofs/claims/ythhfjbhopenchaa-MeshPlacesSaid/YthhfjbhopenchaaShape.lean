/- Contracts of package shape. -/
import Derived.Test.YthhfjbhopenchaaRows
import Derived.Test.YthhfjbhopenchaaKit
import Derived.Test.YthhfjbhopenchaaShapeMath
namespace Go.Proofs.Ythhfjbhopenchaa
open Go.RowKit

theorem Try.infoInt : (Try.prog.info? 3).map (fun i => (i.zero, i.size, i.bytes)) = some (some (.int .i64 0), 1, 8) := by kernel_rfl








end Go.Proofs.Ythhfjbhopenchaa
