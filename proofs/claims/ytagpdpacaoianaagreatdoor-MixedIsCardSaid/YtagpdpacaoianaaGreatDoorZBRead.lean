/- Readers, and what stands beside them. -/
import Derived.Test.YtagpdpacaoianaaGreatDoorZg2
import Derived.Test.YtagpdpacaoianaaGreatDoorZBSame

