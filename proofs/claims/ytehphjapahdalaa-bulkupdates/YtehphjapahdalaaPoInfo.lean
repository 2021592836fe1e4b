/-
  THE BYTE's ROW OF THE PROGRAM's TABLE OF TYPES.
-/
import Derived.Test.YtehphjapahdalaaGfOwn
namespace Go.Proofs.Ytehphjapahdalaa.Gf
theorem info_u8 : (Try.prog.info? 5).map (fun i => (i.zero, i.size, i.bytes)) = some (some (.int .u8 0), 1, 1) := by kernel_rfl
end Go.Proofs.Ytehphjapahdalaa.Gf
