/-
  Contract: switchbacklaw.pic.
-/
import Derived.Test.YtnpaejknoipicaeNest
import Derived.Test.YtnpaejknoipicaeBlocks
namespace Go.Proofs.Ytnpaejknoipicae
open Go.RowKit

/-- the law's own frame -/
def pf (t : Int) (k : Bool) : Fr := ⟨t, k, [⟨#[97, 98, 99]⟩]⟩

set_option maxHeartbeats 400000 in
theorem pic_any (t : Int) (k : Bool) (w : World) :
    Calls Try.prog 38 #[.int .i64 t, .bool k] w fun e w' => e = .returned (.agg #[.int .i64 t, .bool k, .slice (some ⟨w.heap.size + 1, 0, none⟩) 1 1]) ∧ StrsIn (fun g => w.heap.size ≤ g) w' (.slice (some ⟨w.heap.size + 1, 0, none⟩) 1 1) [⟨#[97, 98, 99]⟩] ∧ Below w.heap.size w w' := by
  go_enter Try.func38, Try.ntmps38
  go_wp2
  refine bodyPost_ret (v := .agg #[.int .i64 t, .bool k, .slice (some ⟨w.heap.size + 1, 0, none⟩) 1 1]) (by simp [results, Try.results38, go_sem]) rfl ⟨rfl, ?_, ?_⟩
  · have hk := Blk.new (w.alloc (.cells #[.int .i64 t, .bool k, .slice (some ⟨w.heap.size + 1, 0, none⟩) 1 1] 39)) #[.string ⟨#[97, 98, 99]⟩] 9
    simp only [World.size_alloc] at hk
    refine ⟨⟨rfl, .inr ⟨w.heap.size + 1, 0, 1, rfl, hk.lt, fun j u hj => ?_⟩⟩, by simp, fun g hg _ => ?_⟩
    · rw [Nat.zero_add]
      exact hk.cell (by simpa using hj)
    · simp [Value.ownBlock] at hg
      subst hg
      exact ⟨by omega, hk.lt⟩
  · exact ((Below.refl _ w).alloc (Nat.le_refl _) _).alloc (by simp) _

end Go.Proofs.Ytnpaejknoipicae
