/- The contracts of the program's own Bytes, Scan, Read and From, together. -/
import Derived.Test.YtaoflfdpagpgaaaDoorVSegBytes
import Derived.Test.YtaoflfdpagpgaaaDoorVSegScan
import Derived.Test.YtaoflfdpagpgaaaDoorVSegFrom
