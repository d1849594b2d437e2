/- The contracts of the landed index: Make, Seek, SeekTime, Find, FindTime, in the words that the laws take. -/
import Derived.Test.YtffmfgbjlijpeaaDoorVMark
import Derived.Test.YtffmfgbjlijpeaaDoorVMake
import Derived.Test.YtffmfgbjlijpeaaDoorVIxFind
