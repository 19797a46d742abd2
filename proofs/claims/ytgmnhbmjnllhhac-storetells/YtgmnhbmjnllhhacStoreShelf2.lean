/-
  What stores say of the laws' shelf.
-/
import Derived.Test.YtgmnhbmjnllhhacStoreShelf
namespace Go.Proofs.Ytgmnhbmjnllhhac

theorem shelf_chk : stchk 3 shelfL shelfO = 0 := by kernel_rfl
theorem shelf_addE : addsE 3 shelfL shelfO (picF 40 true) = 0 := by kernel_rfl
theorem shelf_addB : addsB 3 shelfL shelfO (picF 40 true) = true := by kernel_rfl
theorem shelf_addL : (addsL 3 shelfL shelfO (picF 40 true)).length = 3 := by kernel_rfl
theorem shelf_seekE : seekE 3 shelfL shelfO 25 = 0 := by kernel_rfl
theorem shelf_seekN : seekN 3 shelfL shelfO 25 = 4 := by kernel_rfl
theorem shelf_get5E : getE 3 shelfL shelfO 5 = 0 := by kernel_rfl
theorem shelf_get5G : getG 3 shelfL shelfO 5 = shelfO := by kernel_rfl
theorem shelf_get6E : getE 3 shelfL shelfO 6 = 5 := by kernel_rfl
theorem shelf_get6G : getG 3 shelfL shelfO 6 = [] := by kernel_rfl

end Go.Proofs.Ytgmnhbmjnllhhac
