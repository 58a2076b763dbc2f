/- Layer 10: all that the rows want. -/
import Derived.Test.YtklphpphgkbjoaaGrTells
import Derived.Test.YtklphpphgkbjoaaGrShifts
import Derived.Test.YtklphpphgkbjoaaGrAll
import Derived.Test.YtklphpphgkbjoaaGrZ
