/- The landed eval: all that its texts stand on. -/
import Derived.Test.YtdbncanedokinaaGreatEvZa
import Derived.Test.YtdbncanedokinaaGreatEvC
import Derived.Test.YtdbncanedokinaaGreatEvN
