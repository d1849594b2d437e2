/- The library's own sort of no records: nothing turns. -/
import Derived.Test.YtjblhfhfappmoaaSortLaid
import Derived.Shelf.SlSortCmp.NoneTotal
namespace Go.Proofs.Ytjblhfhfappmoaa
open Go.RowKit Go.Sort Go.Shelf Go.Proofs

theorem sort_none (w : World) (fv : Value) : Calls Try.prog 20 #[.slice none 0 0, fv] w (fun e w' => e = .returned (.tuple #[]) ∧ w' = w) :=
  AnyF.slices_SortFunc_none sortRecs none 0 fv w
end Go.Proofs.Ytjblhfhfappmoaa
