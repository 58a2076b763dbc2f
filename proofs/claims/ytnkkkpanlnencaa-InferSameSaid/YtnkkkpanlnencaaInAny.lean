/- All of layer 11, and the program's calls. -/
import Derived.Test.YtnkkkpanlnencaaInSame
import Derived.Test.YtnkkkpanlnencaaInSizes
import Derived.Test.YtnkkkpanlnencaaInTells
import Derived.Test.YtnkkkpanlnencaaInRow
import Derived.Test.YtnkkkpanlnencaaInZ
