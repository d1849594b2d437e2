/- The contracts of the program's own cleaning, and of the document's: vkeep13_any, vmap13_any; refkeep_any, refmap_any. -/
import Derived.Test.YtjblhfhfappmoaaVClnKeep
import Derived.Test.YtjblhfhfappmoaaVClnMap
import Derived.Test.YtjblhfhfappmoaaRMapK
namespace Go.Proofs.Ytjblhfhfappmoaa
end Go.Proofs.Ytjblhfhfappmoaa
