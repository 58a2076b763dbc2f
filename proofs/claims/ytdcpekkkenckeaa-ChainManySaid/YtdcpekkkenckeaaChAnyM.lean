/- Layer 17: all that ChainMany's row wants. -/
import Derived.Test.YtdcpekkkenckeaaChRy
import Derived.Test.YtdcpekkkenckeaaChZ
