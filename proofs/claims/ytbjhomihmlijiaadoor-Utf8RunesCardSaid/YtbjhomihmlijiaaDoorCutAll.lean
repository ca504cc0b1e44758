/- The tactics of cuts, in one text. -/
import Derived.Test.YtbjhomihmlijiaaDoorFrame
import Derived.Deep.Cut
import Derived.Deep.CutRange
import Derived.Deep.DeepCutAuto
