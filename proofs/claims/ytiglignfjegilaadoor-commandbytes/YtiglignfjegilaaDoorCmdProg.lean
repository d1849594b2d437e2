/- The contracts of the landed command: Right, Bytes, Read, Same, in the words that the laws take. -/
import Derived.Test.YtiglignfjegilaaDoorVCmdRead
