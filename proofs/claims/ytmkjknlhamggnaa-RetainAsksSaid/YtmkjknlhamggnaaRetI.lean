/- A segment's type in the program. -/
import Derived.Test.YtmkjknlhamggnaaProg
import Derived.ProofKit
namespace Go.Proofs.Ytmkjknlhamggnaa

theorem infoInfo : (Try.prog.info? 55).map (fun i => (i.zero, i.size, i.bytes)) = some (some (.agg #[.int .i64 0, .int .i64 0, .int .i64 0, .int .i64 0, .int .i64 0]), 5, 40) := by kernel_rfl
end Go.Proofs.Ytmkjknlhamggnaa
