/-
  Contracts of count.All and of what it calls.
-/
import Derived.Test.YtaabikjdockclaaCountWalk
import Derived.Test.YtaabikjdockclaaSlices
import Derived.Handy
namespace Go.Proofs.Ytaabikjdockclaa
open Go.RowKit

theorem Try.infoInt : (Try.prog.info? 3).map (fun i => (i.zero, i.size, i.bytes)) = some (some (.int .i64 0), 1, 8) := by kernel_rfl

set_option maxHeartbeats 400000 in
theorem next_any (B : Nat) (last seq : Int) (w : World) (hc : w.cell? ⟨B, 0, none⟩ = some (.int .i64 last)) (hf : w.frozen? ⟨B, 0, none⟩ = false) :
    Calls Try.prog 35 #[.pointer (some ⟨B, 0, none⟩), .int .i64 seq] w fun e w' =>
      e = .returned (.tuple #[.int .i64 (Cn.uwN last seq), .int .i64 (Cn.uwE last seq)]) ∧ w' = w.setCell ⟨B, 0, none⟩ (.int .i64 (Cn.uwN last seq)) := by
  go_enter Try.func35, Try.ntmps35
  go_wp2_with (go_at_call 17; refine (unwrap_any _ _ _).mono ?_; rintro e w' ⟨rfl, rfl⟩)
  go_ret2
  exact ⟨rfl, rfl⟩

/-- what one more number does to the loop's relation -/
theorem rel_more {B : Nat} {w wr w1 : World} {u v' : Value} {o : Obj} {x : Int} {out : List Int}
    (hB : B + 1 ≤ wr.heap.size) (hown : wr.ownsRow (B + 1) 3 1 u out.length (out.map (Value.int .i64)))
    (hM : wr.heap[B]? = some (.cells #[.int .i64 x] 58 (0, 0))) (hnx : Below B w wr)
    (hown' : w1.ownsRow (B + 1) 3 1 v' (out.length + 1) (out.map (Value.int .i64) ++ [.int .i64 x])) (hgrow : (wr.alloc o).grownBy w1 u.ownBlock) :
    w1.ownsRow (B + 1) 3 1 v' (out ++ [x]).length ((out ++ [x]).map (Value.int .i64)) ∧ w1.heap[B]? = some (.cells #[.int .i64 x] 58 (0, 0)) ∧ Below B w w1 := by
  have hne : ∀ j, j < B + 1 → some j ≠ u.ownBlock := fun j hj h => by have := hown.lt j h.symm; omega
  refine ⟨by simpa using hown', ?_, (hnx.alloc (by omega) o).grown hgrow (by simp; omega) (fun j hj => by have := (hown.lt j hj).1; omega)⟩
  rw [hgrow.block B (by simp; omega) (hne B (by omega))]
  rw [Below.heap_alloc wr o B (by omega)]
  exact hM

set_option maxHeartbeats 1600000 in
set_option maxRecDepth 1000000 in
theorem each_any (B b off cap : Nat) (first : Int) (zs : List Int) (w : World) (hreach : zs.length * 8 ≤ 140737488351232)
    (hbB : b < B) (hB : B + 1 ≤ w.heap.size)
    (hc : ∀ j, j < zs.length → w.cell? ⟨b, off + j, none⟩ = some (.int .i64 (zs[j]?.getD 0)))
    (hM : w.heap[B]? = some (.cells #[.int .i64 first] 58 (0, 0))) :
    Calls Try.prog 34 #[.slice (some ⟨b, off, none⟩) zs.length cap, .func (.func 35) #[.pointer (some ⟨B, 0, none⟩)] #[]] w fun e w' =>
      ∃ v, e = .returned (.tuple #[v, .int .i64 (Cn.allE first zs)]) ∧ w'.ownsRow (B + 1) 3 1 v (Cn.allL first zs).length ((Cn.allL first zs).map (Value.int .i64)) ∧ Below B w w' := by
  obtain ⟨i0, hi, hz0, hz1, hz2⟩ := info_parts Try.infoInt
  go_enter Try.func34, Try.ntmps34
  go_wp2
  go_loopw [6, 13] (fun v i wr => ∃ (k : Nat) (out : List Int), k ≤ zs.length ∧ i = .int .i64 k ∧ Cn.goes first (zs.take k) = some out ∧ wr.ownsRow (B + 1) 3 1 v out.length (out.map (Value.int .i64)) ∧
      wr.heap[B]? = some (.cells #[.int .i64 (Cn.lastOf first out)] 58 (0, 0)) ∧ Below B w wr)
    (fun _ i _ => zs.length - (intOf i).toNat)
  case atStart => exact ⟨0, [], Nat.zero_le _, rfl, rfl, World.ownsRow_nil _ _ _ _, hM, Below.refl _ _⟩
  case round =>
    obtain ⟨k, out, hk, rfl, hgo, hown, hMr, hnx⟩ := hrel
    by_cases hlt : k < zs.length
    · have hcx : wr.cell? ⟨b, off + k, none⟩ = some (.int .i64 (zs[k]?.getD 0)) := (hnx.cell (by exact hbB)).trans (hc k hlt)
      have hcl := cell_of_one hMr
      have hfr := free_of_one hMr
      obtain ⟨x, hx⟩ : ∃ x, x = zs[k]?.getD 0 := ⟨_, rfl⟩
      rw [← hx] at hcx
      have HX : Hid (x = zs[k]?.getD 0) := hx
      have HG : Hid (Cn.goes first (zs.take k) = some out) := hgo
      have HM : Hid (wr.heap[B]? = some (.cells #[.int .i64 (Cn.lastOf first out)] 58 (0, 0))) := hMr
      have hol : out.length = k := by have := Cn.goes_length _ _ _ hgo; simp at this; omega
      have HO : Hid (out.length = k) := hol
      have hsz := hnx.size
      clear hx hgo hMr hol
      cases hok : Cn.okB (Cn.lastOf first out) x
      · have hE := (Cn.uw_no hok).1
        have hN := (Cn.uw_no hok).2
        go_wp2_with (go_at_call 35; refine (next_any B _ _ _ (by exact hcl) (by exact hfr)).mono ?_; rintro e w' ⟨rfl, rfl⟩)
        go_ret2
        have hno : Cn.goes first zs = none := by
          rw [Cn.take_drop_at zs k hlt]
          exact Cn.goes_snoc_no HG.out (by rw [← HX.out]; exact hok)
        rw [(Cn.allE_none hno).1, (Cn.allE_none hno).2]
        exact ⟨_, rfl, World.ownsRow_nil _ _ _ _, hnx.setCell (by exact Nat.le_refl B) _⟩
      · have hE := (Cn.uw_ok hok).1
        have hN := (Cn.uw_ok hok).2
        have HE : out.length ≤ k := by rw [HO.out]; exact Nat.le_refl k
        have how2 : (wr.setCell ⟨B, 0, none⟩ (.int .i64 (Cn.raw (Cn.lastOf first out) x))).ownsRow (B + 1) 3 1 u6 out.length (out.map (Value.int .i64)) := ownsRow_setCell_below hown (by show B < B + 1; omega) _
        go_wp2_with (first
          | (go_at_call 35; refine (next_any B _ _ _ (by exact hcl) (by exact hfr)).mono ?_; rintro e w' ⟨rfl, rfl⟩)
          | (at_builtin; refine wpList_append_own _ rfl _ _ 34 rfl (B + 1) 3 i0 (.int .i64 0) 1 8 Try.underlying34 hi hz0 hz1 hz2 rfl (by decide) _ _ _ rfl (how2.alloc _) ⟨wr.heap.size, 0, none⟩ 1 1 [.int .i64 (Cn.raw (Cn.lastOf first out) x)] rfl rfl ?c1 ?c2 ?c3 ?c4 ?c5 ?_))
        case c1 =>
          intro j u hj
          match j, hj with
          | 0, hj =>
            simp at hj; subst hj
            exact World.cell?_alloc_at _ _ _ _ (by simp)
        case c2 => intro u hu; simp at hu; subst hu; rfl
        case c3 => unfold maxLen; omega
        case c4 => omega
        case c5 => simp; omega
        · intro v' w1 hown' hgrow _
          have R := rel_more (B := B) (w := w) (wr := wr.setCell ⟨B, 0, none⟩ (.int .i64 (Cn.raw (Cn.lastOf first out) x))) (by simp; omega) how2 (one_setCell HM.out) (hnx.setCell (by exact Nat.le_refl B) _) hown' hgrow
          have HGo : Hid (Cn.goes first (zs.take (k + 1)) = some (out ++ [Cn.raw (Cn.lastOf first out) x])) := by
            show Cn.goes first (zs.take (k + 1)) = some (out ++ [Cn.raw (Cn.lastOf first out) x])
            rw [Cn.take_snoc zs k hlt, ← HX.out]
            exact Cn.goes_snoc_ok HG.out hok
          obtain ⟨R1, R2, R3⟩ := R
          have HR1 : Hid _ := R1
          have HR2 : Hid _ := R2
          clear hown' hgrow hown how2 hcx hcl hfr R1 R2 hE hN HE
          go_wp2
          go_roundw
          case rel => exact ⟨k + 1, out ++ [Cn.raw (Cn.lastOf first out) x], by omega, by go_num, HGo.out, HR1.out, by rw [Cn.lastOf_snoc]; exact HR2.out, R3⟩
          case measure => simp [intOf]; omega
    · have hkl : k = zs.length := by omega
      subst hkl
      rw [List.take_length] at hgo
      go_wp2
      go_ret2
      rw [(Cn.allE_some hgo).1, (Cn.allE_some hgo).2]
      exact ⟨_, rfl, hown, hnx⟩

set_option maxHeartbeats 400000 in
theorem each_none (a : Option Addr) (cap : Nat) (f : Value) (w : World) :
    Calls Try.prog 34 #[.slice a 0 cap, f] w fun e w' =>
      e = .returned (.tuple #[.slice none 0 0, .int .i64 0]) ∧ w = w' := by
  go_enter Try.func34, Try.ntmps34
  go_wp2
  refine wp_loop_rounds 1 ?_
  rw [rounds_succ]
  go_wp2
  go_ret2
  exact ⟨rfl, rfl⟩

/-- count.All: whatever it is handed -/
theorem all_any (first : Int) (v : Value) (zs : List Int) (w : World) (hreach : zs.length * 8 ≤ 140737488351232) (hv : Sl w v zs.length 1 (zs.map (Value.int .i64))) :
    Calls Try.prog 18 #[.int .i64 first, v] w fun e w' =>
      ∃ u, e = .returned (.tuple #[u, .int .i64 (Cn.allE first zs)]) ∧ w'.ownsRow (w.heap.size + 1) 3 1 u (Cn.allL first zs).length ((Cn.allL first zs).map (Value.int .i64)) ∧ Below w.heap.size w w' := by
  obtain ⟨_, ⟨h0, a, c, rfl⟩ | ⟨b, off, c, rfl, hlt, hc⟩⟩ := hv
  · have hz : zs = [] := List.eq_nil_of_length_eq_zero h0
    subst hz
    go_enter Try.func18, Try.ntmps18
    go_wp2_with (go_at_call 34; refine (each_none _ _ _ _).mono ?_; rintro e w' ⟨rfl, rfl⟩)
    go_ret2
    exact ⟨_, rfl, World.ownsRow_nil _ _ _ _, by go_grown⟩
  · have hcc : ∀ j, j < zs.length → w.cell? ⟨b, off + j, none⟩ = some (.int .i64 (zs[j]?.getD 0)) := by
      intro j hj
      exact hc j _ (by simp [List.getElem?_eq_getElem hj])
    have HC : Hid (∀ j, j < zs.length → w.cell? ⟨b, off + j, none⟩ = some (.int .i64 (zs[j]?.getD 0))) := hcc
    clear hc hcc
    go_enter Try.func18, Try.ntmps18
    go_wp2_with (go_at_call 34; refine (each_any w.heap.size b off c first zs (w.alloc (.cells #[.int .i64 first] 58)) hreach hlt (by simp) (fun j hj => (World.cell?_alloc_past _ _ _ hlt).trans (HC.out j hj)) (heap_alloc_new w _)).mono ?_; rintro e w' ⟨u, rfl, hown, hbel⟩)
    go_ret2
    exact ⟨_, rfl, hown, ((Below.refl _ _).alloc (Nat.le_refl _) _).trans hbel⟩

end Go.Proofs.Ytaabikjdockclaa
