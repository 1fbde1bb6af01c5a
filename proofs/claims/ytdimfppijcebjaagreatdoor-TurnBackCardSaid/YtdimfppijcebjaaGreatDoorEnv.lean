/- What the library's variables hold: see EnvBare. -/
import Derived.Test.YtdimfppijcebjaaGreatDoorEnvBare
