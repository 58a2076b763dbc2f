/- Layer 17: all that the rows want. -/
import Derived.Test.YtdcpekkkenckeaaChRow
import Derived.Test.YtdcpekkkenckeaaChTells
import Derived.Test.YtdcpekkkenckeaaChPuts
import Derived.Test.YtdcpekkkenckeaaChTrims
import Derived.Test.YtdcpekkkenckeaaChCuts
import Derived.Test.YtdcpekkkenckeaaChZ
