/-
  Contracts: slices.Grow and slices.Concat of two rows, of frames and of groups.
-/
import Derived.Test.YtnpaejknoipicaeCloneGroup
import Derived.Lib.AppendZeros
namespace Go.Proofs.Ytnpaejknoipicae
open Go.RowKit

theorem zeroCells_len (z : Array Value) (n : Nat) : (Builtin.zeroCells z n).size = n * z.size := by simp [Builtin.zeroCells]

section
variable {P : Program}
theorem grow_run (w : World) (T tn ty E : TypeId) (i : TypeInfo) (z : Value) (size bytes : Nat) (ht : P.underlying T = some (.slice E)) (htn : P.underlying tn = some (.int .i64)) (hi : P.info? E = some i) (hz : i.zero = some z) (hsize : i.size = size) (hby : i.bytes = bytes) (hzs : z.cells.size = size) (hsz : 0 < size)
    (n : Nat) (h0 : 0 < n) (hn : n ≤ 1000) (hb : bytes ≤ 1000) :
    ∃ cap w', (Builtin.append_ #[T, tn] ty #[.slice none 0 0, .int .i64 n]).run P w = .ok (.slice (some ⟨w.heap.size, 0, none⟩) n cap) w' ∧ n ≤ cap ∧ w'.ownsRow w.heap.size E size (.slice (some ⟨w.heap.size, 0, none⟩) 0 cap) 0 [] ∧ Below w.heap.size w w' := by
  have hnb : n * i.bytes ≤ 1000 * 1000 := by rw [hby]; exact Nat.mul_le_mul hn hb
  have r := Lib.run_append_nil_zeros (P := P) w T tn ty E i z .i64 .i64 ht htn hi hz n h0 (by omega) (by omega) (by omega)
  have hg := grownCap_ge w n 0 E
  refine ⟨_, _, r, hg, ⟨by simp, .inr ⟨w.heap.size, _, _, rfl, Nat.le_refl _, heap_alloc_new w.drew _, Nat.zero_le _, grownCap_le_maxLen w n 0 E (by unfold maxLen; omega), ?_, by simp⟩⟩, (Below.refl _ w).drew.alloc (Nat.le_refl _) _⟩
  rw [Array.size_append, zeroCells_len, zeroCells_len, hzs, ← Nat.add_mul]
  congr 1; omega
end

/-- append of a row of frames to a row of the call's own -/
theorem appFrs {base : Nat} {S : Nat → Prop} {w : World} {v u : Value} {l m : List Fr} (hv : OwnFrs base S w v l) (hu : FrsIn S w u m) (hS : ∀ g, S g → g < base) (hb : l.length + m.length ≤ 1000) (hbase : base ≤ w.heap.size) :
    ∃ v' w', (Builtin.append_ #[32, 32] 32 #[v, u]).run Try.prog w = .ok v' w' ∧ OwnFrs base S w' v' (l ++ m) ∧ Below base w w' := by
  obtain ⟨i0, hi, hz0, hz1, hz2⟩ := info_parts Try.infoFrm
  obtain ⟨ps, p1, p2, p3⟩ := hv
  obtain ⟨qs, q1, q2, q3⟩ := hu.sl
  have hps : ps.length = l.length := by rw [← p1, List.length_map]
  have hqs : qs.length = m.length := by rw [← q1, List.length_map]
  obtain ⟨v', w', r, o, g, _⟩ := run_append_any (P := Try.prog) w base 32 32 39 i0 _ 3 40 Try.underlying32 hi hz0 hz1 hz2 rfl (by decide) v ps.length (frCells ps) p2 qs.length (frCells qs) u q2 (fr_one2 q3) (by unfold maxLen; omega) (by omega) hbase
  have hs : SameOn S w w' := SameOn.grown g (fun g hg e => by have := (p2.lt g e.symm).1; have := hS g hg; omega)
  refine ⟨v', w', r, ⟨ps ++ qs, by rw [List.map_append, p1, q1], by rw [List.length_append, frCells_append]; exact o, fun p hp => ?_⟩, (Below.refl base w).grown g hbase (fun j hj => (p2.lt j hj).1)⟩
  rcases List.mem_append.1 hp with hp | hp
  · exact (p3 p hp).to hs (fun _ _ h => h)
  · exact (q3 p hp).to hs (fun _ _ h => h)
theorem appGrs {base : Nat} {S : Nat → Prop} {w : World} {v u : Value} {l m : List (List Fr)} (hv : OwnGrs base S w v l) (hu : GrsIn S w u m) (hS : ∀ g, S g → g < base) (hb : l.length + m.length ≤ 1000) (hbase : base ≤ w.heap.size) :
    ∃ v' w', (Builtin.append_ #[31, 31] 31 #[v, u]).run Try.prog w = .ok v' w' ∧ OwnGrs base S w' v' (l ++ m) ∧ Below base w w' := by
  obtain ⟨qs, q1, q2, q3⟩ := hu.sl
  obtain ⟨v', w', r, o, g, _⟩ := groups_app hv q1 q2 q3 (fun g hg e => by have := (hv.lt g e.symm).1; have := hS g hg; omega) hb hbase
  exact ⟨v', w', r, o, (Below.refl base w).grown g hbase (fun j hj => (hv.lt j hj).1)⟩

set_option maxHeartbeats 2000000 in
set_option maxRecDepth 100000 in
theorem growFrs_any (n : Nat) (w : World) (hn : n ≤ 1000) :
    Calls Try.prog 71 #[.slice none 0 0, .int .i64 n] w fun e w' => ∃ u, e = .returned u ∧ w'.ownsRow w.heap.size 39 3 u 0 [] ∧ Below w.heap.size w w' := by
  by_cases h0 : n = 0
  · subst h0
    go_enter Try.func71, Try.ntmps71
    go_wp2
    go_ret
    exact ⟨_, rfl, World.ownsRow_nil _ _ _ _, Below.refl _ _⟩
  · obtain ⟨i0, hi, hz0, hz1, hz2⟩ := info_parts Try.infoFrm
    obtain ⟨cap, w', r, hc, ho, hb⟩ := grow_run (P := Try.prog) w 32 3 32 39 i0 _ 3 40 Try.underlying32 Try.underlying3 hi hz0 hz1 hz2 rfl (by decide) n (by omega) hn (by decide)
    have HO : Hid (w'.ownsRow w.heap.size 39 3 (.slice (some ⟨w.heap.size, 0, none⟩) 0 cap) 0 []) := ho
    have HB : Hid (Below w.heap.size w w') := hb
    have h0i : (0 : Int) < (n : Int) := by omega
    have hw : IntKind.i64.wrap (n : Int) = (n : Int) := by rw [IntKind.wrap_i64]; omega
    clear ho hb hi hz0 hz1 hz2
    go_enter Try.func71, Try.ntmps71
    go_wp2_with (at_builtin; refine wpList_append_run rfl (.tmp 20) (.tmp 21) 32 3 rfl _ _ rfl rfl r ?_)
    go_ret
    exact ⟨_, rfl, HO.out, HB.out⟩

set_option maxHeartbeats 4000000 in
set_option maxRecDepth 100000 in
theorem concatFrs_any (S : Nat → Prop) (q : Nat) (av bv : Value) (l m : List Fr) (w : World) (hq0 : w.cell? ⟨q, 0, none⟩ = some av) (hq1 : w.cell? ⟨q, 1, none⟩ = some bv) (ha : FrsIn S w av l) (hb : FrsIn S w bv m) (hlen : l.length + m.length ≤ 1000) :
    Calls Try.prog 58 #[.slice (some ⟨q, 0, none⟩) 2 2] w fun e w' => ∃ u, e = .returned u ∧ OwnFrs w.heap.size (fun g => S g ∧ g < w.heap.size) w' u (l ++ m) ∧ Below w.heap.size w w' := by
  have hqw : q < w.heap.size := block_lt_of_cell hq0
  have HA : Hid (FrsIn (fun g => S g ∧ g < w.heap.size) w av l) := ha.mono fun g hg hs => ⟨hs, hg⟩
  have HB' : Hid (FrsIn (fun g => S g ∧ g < w.heap.size) w bv m) := hb.mono fun g hg hs => ⟨hs, hg⟩
  obtain ⟨aa, ac, ea, _, _⟩ := ha.len
  obtain ⟨ba, bc, eb, _, _⟩ := hb.len
  obtain ⟨la, hla⟩ : ∃ n, n = l.length := ⟨_, rfl⟩
  obtain ⟨lb, hlb⟩ : ∃ n, n = m.length := ⟨_, rfl⟩
  have HLA : Hid (la = l.length) := hla
  have HLB : Hid (lb = m.length) := hlb
  rw [← hla] at ea hlen
  rw [← hlb] at eb hlen
  clear ha hb hla hlb
  subst ea eb
  go_enter Try.func58, Try.ntmps58
  go_wp2_with fail
  go_loopw [3, 11] (fun s i wr => ∃ k y : Nat, ((k = 0 ∧ y = 0) ∨ (k = 1 ∧ y = la) ∨ (k = 2 ∧ y = la + lb)) ∧ i = .int .i64 k ∧ s = .int .i64 y ∧ w = wr)
    (fun _ i _ => 2 - (intOf i).toNat)
  case atStart => exact ⟨0, 0, .inl ⟨rfl, rfl⟩, rfl, rfl, rfl⟩
  case round =>
    obtain ⟨k, y, hk, rfl, rfl, rfl⟩ := hrel
    rcases hk with ⟨rfl, rfl⟩ | ⟨rfl, rfl⟩ | ⟨rfl, rfl⟩
    · go_wp2_with fail
      go_roundw
      case rel => exact ⟨1, la, .inr (.inl ⟨rfl, rfl⟩), by go_num, by go_num, by first | rfl | trivial⟩
      case measure => simp [intOf]
    · go_wp2_with fail
      go_roundw
      case rel => exact ⟨2, y + lb, .inr (.inr ⟨rfl, rfl⟩), by go_num, by go_num, by first | rfl | trivial⟩
      case measure => simp [intOf]
    · have HG : Hid (∀ U : World, Calls Try.prog 71 #[.slice none 0 0, .int .i64 ((la : Int) + (lb : Int))] U fun e w' => ∃ u, e = .returned u ∧ Hid (w'.ownsRow U.heap.size 39 3 u 0 []) ∧ Below U.heap.size U w') := fun U => by
        have := growFrs_any (la + lb) U hlen
        rw [show ((la + lb : Nat) : Int) = (la : Int) + (lb : Int) by omega] at this
        exact this
      go_wp2_with fail
      refine (HG.out _).mono ?_
      rintro e w1 ⟨u1, rfl, HO1, hb1⟩
      have B1 : Hid (Below w.heap.size w w1) := hb1
      have O1 : Hid (OwnFrs w.heap.size (fun g => S g ∧ g < w.heap.size) w1 u1 []) := ⟨[], rfl, HO1.out, fun _ hp => absurd hp List.not_mem_nil⟩
      have CQ : Hid (∀ U, Below w.heap.size w U → U.cell? ⟨q, 0, none⟩ = some (.slice aa la ac) ∧ U.cell? ⟨q, 1, none⟩ = some (.slice ba lb bc)) := fun U hU => ⟨(hU.cell (p := ⟨q, 0, none⟩) hqw).trans hq0, (hU.cell (p := ⟨q, 1, none⟩) hqw).trans hq1⟩
      clear hb1 HO1 HG hq0 hq1
      go_wp2_with fail
      go_loopw [6, 27] (fun u i w2 => ∃ k : Nat, k ≤ 2 ∧ i = .int .i64 k ∧ Hid (OwnFrs w.heap.size (fun g => S g ∧ g < w.heap.size) w2 u (if k = 0 then [] else if k = 1 then l else l ++ m)) ∧ Hid (Below w.heap.size w w2))
        (fun _ i _ => 2 - (intOf i).toNat)
      case atStart => exact ⟨0, by omega, rfl, O1, B1⟩
      case round =>
        obtain ⟨k, hk, rfl, HO, HB⟩ := hrel
        have hk3 : k = 0 ∨ k = 1 ∨ k = 2 := by omega
        obtain ⟨c0, c1⟩ := CQ.out _ HB.out
        rcases hk3 with rfl | rfl | rfl
        · have ho : OwnFrs w.heap.size (fun g => S g ∧ g < w.heap.size) wr u6 [] := HO.out
          obtain ⟨v', w3, r3, o3, b3⟩ := appFrs ho (HA.out.below HB.out) (fun g hg => hg.2) (by rw [← HLA.out]; simp; omega) HB.out.size
          have O3 : Hid (OwnFrs w.heap.size (fun g => S g ∧ g < w.heap.size) w3 v' l) := by simpa [Hid] using o3
          have B3 : Hid (Below w.heap.size w w3) := HB.out.trans b3
          clear o3 b3 ho HO HB
          go_wp2_with (at_builtin; refine wpList_append_run rfl (.tmp 31) (.tmp 32) 32 32 rfl _ _ rfl rfl r3 ?_)
          go_roundw
          case rel => exact ⟨1, by omega, by go_num, O3, B3⟩
          case measure => simp [intOf]
        · have ho : OwnFrs w.heap.size (fun g => S g ∧ g < w.heap.size) wr u6 l := HO.out
          obtain ⟨v', w3, r3, o3, b3⟩ := appFrs ho (HB'.out.below HB.out) (fun g hg => hg.2) (by rw [← HLA.out, ← HLB.out]; omega) HB.out.size
          have O3 : Hid (OwnFrs w.heap.size (fun g => S g ∧ g < w.heap.size) w3 v' (l ++ m)) := o3
          have B3 : Hid (Below w.heap.size w w3) := HB.out.trans b3
          clear o3 b3 ho HO HB
          go_wp2_with (at_builtin; refine wpList_append_run rfl (.tmp 31) (.tmp 32) 32 32 rfl _ _ rfl rfl r3 ?_)
          go_roundw
          case rel => exact ⟨2, by omega, by go_num, O3, B3⟩
          case measure => simp [intOf]
        · have ho : OwnFrs w.heap.size (fun g => S g ∧ g < w.heap.size) wr u6 (l ++ m) := HO.out
          go_wp2
          go_ret
          exact ⟨_, rfl, ho, HB.out⟩

set_option maxHeartbeats 2000000 in
set_option maxRecDepth 100000 in
theorem growGrs_any (n : Nat) (w : World) (hn : n ≤ 1000) :
    Calls Try.prog 73 #[.slice none 0 0, .int .i64 n] w fun e w' => ∃ u, e = .returned u ∧ w'.ownsRow w.heap.size 34 1 u 0 [] ∧ Below w.heap.size w w' := by
  by_cases h0 : n = 0
  · subst h0
    go_enter Try.func73, Try.ntmps73
    go_wp2
    go_ret
    exact ⟨_, rfl, World.ownsRow_nil _ _ _ _, Below.refl _ _⟩
  · obtain ⟨i0, hi, hz0, hz1, hz2⟩ := info_parts Try.infoGrp
    obtain ⟨cap, w', r, hc, ho, hb⟩ := grow_run (P := Try.prog) w 31 3 31 34 i0 _ 1 24 Try.underlying31 Try.underlying3 hi hz0 hz1 hz2 rfl (by decide) n (by omega) hn (by decide)
    have HO : Hid (w'.ownsRow w.heap.size 34 1 (.slice (some ⟨w.heap.size, 0, none⟩) 0 cap) 0 []) := ho
    have HB : Hid (Below w.heap.size w w') := hb
    have h0i : (0 : Int) < (n : Int) := by omega
    have hw : IntKind.i64.wrap (n : Int) = (n : Int) := by rw [IntKind.wrap_i64]; omega
    clear ho hb hi hz0 hz1 hz2
    go_enter Try.func73, Try.ntmps73
    go_wp2_with (at_builtin; refine wpList_append_run rfl (.tmp 20) (.tmp 21) 31 3 rfl _ _ rfl rfl r ?_)
    go_ret
    exact ⟨_, rfl, HO.out, HB.out⟩

set_option maxHeartbeats 4000000 in
set_option maxRecDepth 100000 in
theorem concatGrs_any (S : Nat → Prop) (q : Nat) (av bv : Value) (l m : List (List Fr)) (w : World) (hq0 : w.cell? ⟨q, 0, none⟩ = some av) (hq1 : w.cell? ⟨q, 1, none⟩ = some bv) (ha : GrsIn S w av l) (hb : GrsIn S w bv m) (hlen : l.length + m.length ≤ 1000) :
    Calls Try.prog 62 #[.slice (some ⟨q, 0, none⟩) 2 2] w fun e w' => ∃ u, e = .returned u ∧ OwnGrs w.heap.size (fun g => S g ∧ g < w.heap.size) w' u (l ++ m) ∧ Below w.heap.size w w' := by
  have hqw : q < w.heap.size := block_lt_of_cell hq0
  have HA : Hid (GrsIn (fun g => S g ∧ g < w.heap.size) w av l) := ha.mono fun g hg hs => ⟨hs, hg⟩
  have HB' : Hid (GrsIn (fun g => S g ∧ g < w.heap.size) w bv m) := hb.mono fun g hg hs => ⟨hs, hg⟩
  obtain ⟨aa, ac, ea, _, _⟩ := ha.len
  obtain ⟨ba, bc, eb, _, _⟩ := hb.len
  obtain ⟨la, hla⟩ : ∃ n, n = l.length := ⟨_, rfl⟩
  obtain ⟨lb, hlb⟩ : ∃ n, n = m.length := ⟨_, rfl⟩
  have HLA : Hid (la = l.length) := hla
  have HLB : Hid (lb = m.length) := hlb
  rw [← hla] at ea hlen
  rw [← hlb] at eb hlen
  clear ha hb hla hlb
  subst ea eb
  go_enter Try.func62, Try.ntmps62
  go_wp2_with fail
  go_loopw [3, 11] (fun s i wr => ∃ k y : Nat, ((k = 0 ∧ y = 0) ∨ (k = 1 ∧ y = la) ∨ (k = 2 ∧ y = la + lb)) ∧ i = .int .i64 k ∧ s = .int .i64 y ∧ w = wr)
    (fun _ i _ => 2 - (intOf i).toNat)
  case atStart => exact ⟨0, 0, .inl ⟨rfl, rfl⟩, rfl, rfl, rfl⟩
  case round =>
    obtain ⟨k, y, hk, rfl, rfl, rfl⟩ := hrel
    rcases hk with ⟨rfl, rfl⟩ | ⟨rfl, rfl⟩ | ⟨rfl, rfl⟩
    · go_wp2_with fail
      go_roundw
      case rel => exact ⟨1, la, .inr (.inl ⟨rfl, rfl⟩), by go_num, by go_num, by first | rfl | trivial⟩
      case measure => simp [intOf]
    · go_wp2_with fail
      go_roundw
      case rel => exact ⟨2, y + lb, .inr (.inr ⟨rfl, rfl⟩), by go_num, by go_num, by first | rfl | trivial⟩
      case measure => simp [intOf]
    · have HG : Hid (∀ U : World, Calls Try.prog 73 #[.slice none 0 0, .int .i64 ((la : Int) + (lb : Int))] U fun e w' => ∃ u, e = .returned u ∧ Hid (w'.ownsRow U.heap.size 34 1 u 0 []) ∧ Below U.heap.size U w') := fun U => by
        have := growGrs_any (la + lb) U hlen
        rw [show ((la + lb : Nat) : Int) = (la : Int) + (lb : Int) by omega] at this
        exact this
      go_wp2_with fail
      refine (HG.out _).mono ?_
      rintro e w1 ⟨u1, rfl, HO1, hb1⟩
      have B1 : Hid (Below w.heap.size w w1) := hb1
      have O1 : Hid (OwnGrs w.heap.size (fun g => S g ∧ g < w.heap.size) w1 u1 []) := ⟨[], rfl, HO1.out, fun _ hp => absurd hp List.not_mem_nil⟩
      have CQ : Hid (∀ U, Below w.heap.size w U → U.cell? ⟨q, 0, none⟩ = some (.slice aa la ac) ∧ U.cell? ⟨q, 1, none⟩ = some (.slice ba lb bc)) := fun U hU => ⟨(hU.cell (p := ⟨q, 0, none⟩) hqw).trans hq0, (hU.cell (p := ⟨q, 1, none⟩) hqw).trans hq1⟩
      clear hb1 HO1 HG hq0 hq1
      go_wp2_with fail
      go_loopw [6, 27] (fun u i w2 => ∃ k : Nat, k ≤ 2 ∧ i = .int .i64 k ∧ Hid (OwnGrs w.heap.size (fun g => S g ∧ g < w.heap.size) w2 u (if k = 0 then [] else if k = 1 then l else l ++ m)) ∧ Hid (Below w.heap.size w w2))
        (fun _ i _ => 2 - (intOf i).toNat)
      case atStart => exact ⟨0, by omega, rfl, O1, B1⟩
      case round =>
        obtain ⟨k, hk, rfl, HO, HB⟩ := hrel
        have hk3 : k = 0 ∨ k = 1 ∨ k = 2 := by omega
        obtain ⟨c0, c1⟩ := CQ.out _ HB.out
        rcases hk3 with rfl | rfl | rfl
        · have ho : OwnGrs w.heap.size (fun g => S g ∧ g < w.heap.size) wr u6 [] := HO.out
          obtain ⟨v', w3, r3, o3, b3⟩ := appGrs ho (HA.out.below HB.out) (fun g hg => hg.2) (by rw [← HLA.out]; simp; omega) HB.out.size
          have O3 : Hid (OwnGrs w.heap.size (fun g => S g ∧ g < w.heap.size) w3 v' l) := by simpa [Hid] using o3
          have B3 : Hid (Below w.heap.size w w3) := HB.out.trans b3
          clear o3 b3 ho HO HB
          go_wp2_with (at_builtin; refine wpList_append_run rfl (.tmp 31) (.tmp 32) 31 31 rfl _ _ rfl rfl r3 ?_)
          go_roundw
          case rel => exact ⟨1, by omega, by go_num, O3, B3⟩
          case measure => simp [intOf]
        · have ho : OwnGrs w.heap.size (fun g => S g ∧ g < w.heap.size) wr u6 l := HO.out
          obtain ⟨v', w3, r3, o3, b3⟩ := appGrs ho (HB'.out.below HB.out) (fun g hg => hg.2) (by rw [← HLA.out, ← HLB.out]; omega) HB.out.size
          have O3 : Hid (OwnGrs w.heap.size (fun g => S g ∧ g < w.heap.size) w3 v' (l ++ m)) := o3
          have B3 : Hid (Below w.heap.size w w3) := HB.out.trans b3
          clear o3 b3 ho HO HB
          go_wp2_with (at_builtin; refine wpList_append_run rfl (.tmp 31) (.tmp 32) 31 31 rfl _ _ rfl rfl r3 ?_)
          go_roundw
          case rel => exact ⟨2, by omega, by go_num, O3, B3⟩
          case measure => simp [intOf]
        · have ho : OwnGrs w.heap.size (fun g => S g ∧ g < w.heap.size) wr u6 (l ++ m) := HO.out
          go_wp2
          go_ret
          exact ⟨_, rfl, ho, HB.out⟩

end Go.Proofs.Ytnpaejknoipicae
