import Derived.Test.YtjkdcegmdfmjpaaGreatTk
import Derived.Handy
import Derived.Lib.Bytes
import GoSem.Op.String
import Derived.Test.YtjkdcegmdfmjpaaGreatShAll
set_option maxHeartbeats 16000000
set_option maxRecDepth 100000
set_option linter.unusedVariables false
set_option linter.unusedSimpArgs false
namespace Go.Proofs.PkM
end Go.Proofs.PkM
namespace Go.Proofs.YtjkdcegmdfmjpaaGreat.B8
end Go.Proofs.YtjkdcegmdfmjpaaGreat.B8
namespace Go.Proofs.YtjkdcegmdfmjpaaGreat
end Go.Proofs.YtjkdcegmdfmjpaaGreat
