/- The contracts of the program's own table of producers that the laws want, under one name. -/
import Derived.Test.YtgjgbelloobdfaaVDedSet
namespace Go.Proofs.Ytgjgbelloobdfaa
end Go.Proofs.Ytgjgbelloobdfaa
