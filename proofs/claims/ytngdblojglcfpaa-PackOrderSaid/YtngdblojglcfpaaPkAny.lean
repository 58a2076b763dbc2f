/- Layer 8: all that the rows want. -/
import Derived.Test.YtngdblojglcfpaaPkZ
import Derived.Test.YtngdblojglcfpaaPkCuts
import Derived.Test.YtngdblojglcfpaaPkBack
import Derived.Test.YtngdblojglcfpaaPkOrdB
import Derived.Test.YtngdblojglcfpaaPkWide
import Derived.Test.YtngdblojglcfpaaPkMany
import Derived.Test.YtngdblojglcfpaaPkRow
