/- What a byte is to the program: one cell of one byte, 0 at first. -/
import Derived.Test.YtpfpkghihpcbkaaKit
namespace Go.Proofs.Ytpfpkghihpcbkaa
open Go.RowKit
theorem byte_info : (Try.prog.info? 5).map (fun i => (i.zero, i.size, i.bytes)) = some (some (.int .u8 0), 1, 1) := by kernel_rfl
end Go.Proofs.Ytpfpkghihpcbkaa
