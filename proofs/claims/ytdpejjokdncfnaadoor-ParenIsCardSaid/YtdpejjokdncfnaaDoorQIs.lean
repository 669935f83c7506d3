/- What ParenIs stands on. -/
import Derived.Test.YtdpejjokdncfnaaDoorQGood
import Derived.Test.YtdpejjokdncfnaaDoorQRow
import Derived.Test.YtdpejjokdncfnaaDoorQLaid
