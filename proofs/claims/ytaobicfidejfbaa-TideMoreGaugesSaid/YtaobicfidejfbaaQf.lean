/- The calculator's way through appends of a region that draws its order, at this seat. -/
import Derived.Test.YtaobicfidejfbaaQe
import Derived.Test.YtaobicfidejfbaaEv8
