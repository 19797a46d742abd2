/-
  Contract: what every statement of wire asks first.
-/
import Derived.Test.YtnpaejknoipicafWireDecode
import Derived.Deep.QuietTactic
import Derived.BigQuiet
import Derived.Deep.RegionWith
import Derived.BigRegion
import Derived.Lib.QuietBelow
namespace Go.Proofs.Ytnpaejknoipicaf
open Go.RowKit Go.Sort

theorem wholeP_any (seq time : Int) (t : ByteArray) (w : World) :
    Calls Try.prog 39 #[.int .i64 seq, .int .i64 time, .string t] w fun e w' =>
      e = .returned (.agg #[.int .i64 seq, .int .i64 time, .bool true, .bool true, .bool true, .string t]) ∧ w' = w.alloc (.cells #[.int .i64 seq, .int .i64 time, .bool true, .bool true, .bool true, .string t] 38) := by
  go_enter Try.func39, Try.ntmps39
  go_wp2
  exact bodyPost_ret (v := .agg #[.int .i64 seq, .int .i64 time, .bool true, .bool true, .bool true, .string t]) (by simp [results, Try.results39, go_sem]) rfl ⟨rfl, rfl⟩

def p0 : Pk := ⟨258, 5, true, true, true, ⟨#[97, 98]⟩⟩
theorem p0_chk : p0.chk = 0 := by decide
theorem p0_enc : p0.enc = [135, 1, 2, 0, 0, 0, 5, 2, 97, 98] := by decide
theorem p0_dec : Pk.dec [135, 1, 2, 0, 0, 0, 5, 2, 97, 98] = (p0, 0) := by rfl
theorem p0_no : Pk.dec [135, 1, 2, 0, 0, 0, 5, 2, 97, 98, 122] = (Pk.zero, 1) := by rfl

end Go.Proofs.Ytnpaejknoipicaf
