/- The law PitchCompares, whole. -/
import Derived.Test.YtppkficedakekabDoorQe
import Derived.Test.YtppkficedakekabDoorQf
namespace Go.Proofs.YtppkficedakekabDoor
open Go.RowKit
theorem refCmp_holds : RefCmp := fun s a o t b u w => refCompare_cut s a o t b u w _ rfl
theorem law_PitchCompares (s a o t b u p c q : Int) (w : World) (ht : PW w) :
    Calls Tryd.prog 6 #[.agg #[.int .i64 s, .int .i64 a, .int .i64 o], .agg #[.int .i64 t, .int .i64 b, .int .i64 u], .agg #[.int .i64 p, .int .i64 c, .int .i64 q]] w fun e w' => e = .returned (.bool true) ∧ Below w.heap.size w w' :=
  law_cmp refCmp_holds s a o t b u p c q w ht
end Go.Proofs.YtppkficedakekabDoor
