/- Ones, and what stands beside it. -/
import Derived.Test.YtagpdpacaoianaaGreatDoorZBOnesR
import Derived.Test.YtagpdpacaoianaaGreatDoorZBNil

