/- Layer 12: all that the rows want. -/
import Derived.Test.YtdcgmnkoomhocaaWiRow
import Derived.Test.YtdcgmnkoomhocaaWiZ
