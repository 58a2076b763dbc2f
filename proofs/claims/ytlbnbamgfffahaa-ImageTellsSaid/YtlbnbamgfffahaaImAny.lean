/- Layer 9: all that the rows want. -/
import Derived.Test.YtlbnbamgfffahaaImTells
import Derived.Test.YtlbnbamgfffahaaImJoins
import Derived.Test.YtlbnbamgfffahaaImSizes
import Derived.Test.YtlbnbamgfffahaaImBack
import Derived.Test.YtlbnbamgfffahaaImApart
import Derived.Test.YtlbnbamgfffahaaImRow
import Derived.Test.YtlbnbamgfffahaaImZ
