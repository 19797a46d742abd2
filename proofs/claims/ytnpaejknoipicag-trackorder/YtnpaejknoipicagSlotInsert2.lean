/-
  Contract: slices.Insert of one slot, where there is no room.
-/
import Derived.Test.YtnpaejknoipicagSlotInsert
namespace Go.Proofs.Ytnpaejknoipicag
open Go.RowKit

/-- the new row behind an insertion -/
theorem insert_new (old Z : List Value) (l : List Sk) (x : Sk) (i G : Nat) (hi : i < l.length) (hG : l.length + 1 ≤ G) (ho : old = skCells (l.take i)) (hZ : Z.length = (G - i) * 7)
    (r0 r1 r2 : List Value) (h0 : r0 = old ++ Z) (h1 : r1 = r0.take (i * 7) ++ x.cells.toList ++ r0.drop (i * 7 + x.cells.toList.length)) (h2 : r2 = r1.take ((i + 1) * 7) ++ skCells (l.drop i) ++ r1.drop ((i + 1) * 7 + (skCells (l.drop i)).length)) :
    r0.length = G * 7 ∧ r1.length = G * 7 ∧ r2.length = G * 7 ∧ r2.take ((l.length + 1) * 7) = skCells (l.take i ++ x :: l.drop i) := by
  have hx : x.cells.toList.length = 7 := rfl
  have hd : (skCells (l.drop i)).length = (l.length - i) * 7 := by rw [skCells_len, List.length_drop]
  have hti : (skCells (l.take i)).length = i * 7 := by rw [skCells_len, List.length_take]; congr 1; omega
  have l0 : r0.length = G * 7 := by rw [h0, ho]; simp only [List.length_append, hti, hZ]; omega
  have e0 : r0.take (i * 7) = skCells (l.take i) := by rw [h0, ho]; exact List.take_left' hti
  have l1 : r1.length = G * 7 := by rw [h1]; simp only [List.length_append, List.length_take, List.length_drop, hx, l0]; omega
  rw [hx, e0] at h1
  have e1 : r1.take ((i + 1) * 7) = skCells (l.take i) ++ x.cells.toList := by
    rw [h1]; exact List.take_left' (by simp only [List.length_append, hti, hx]; omega)
  have l2 : r2.length = G * 7 := by rw [h2]; simp only [List.length_append, List.length_take, List.length_drop, hd, l1]; omega
  refine ⟨l0, l1, l2, ?_⟩
  rw [h2, e1, skCells_append, show skCells (x :: l.drop i) = x.cells.toList ++ skCells (l.drop i) from rfl, ← List.append_assoc]
  exact List.take_left' (by simp only [List.length_append, hti, hx, hd]; omega)

set_option maxHeartbeats 1000000 in
set_option maxRecDepth 100000 in
/-- in between, where there is no room -/
theorem insert_grow (base g cap i : Nat) (cur : Array Value) (l : List Sk) (x : Sk) (vb n : Nat) (w : World) (hn : n = l.length) (hbase : base ≤ w.heap.size) (hg : Blk w g cur 71) (hnc : n ≤ cap) (htk : cur.toList.take (n * 7) = skCells l)
    (hi : i < n) (hroom : cap < n + 1) (hsm : n ≤ 1000) (hvb : Blk w vb x.cells 71) :
    Calls Try.prog 88 #[.slice (some ⟨g, 0, none⟩) n cap, .int .i64 i, .slice (some ⟨vb, 0, none⟩) 1 1] w fun e w' =>
      ∃ u, e = .returned u ∧ w'.ownsRow base 71 7 u (n + 1) (skCells (l.take i ++ x :: l.drop i)) ∧ w.grownBy w' (some g) := by
  obtain ⟨i0, hinf, hz0, hz1, hz2⟩ := info_parts Try.infoSlot
  have hti : (skCells (l.take i)).length = i * 7 := by rw [skCells_len, List.length_take]; congr 1; omega
  have hall : ∀ j v, (skCells l)[j]? = some v → w.cell? ⟨g, j, none⟩ = some v := fun j v hj => by
    have hlt : j < (skCells l).length := (List.getElem?_eq_some_iff.1 hj).1
    rw [skCells_len] at hlt
    refine hg.cell ?_
    rw [← htk, List.getElem?_take, if_pos (by omega)] at hj
    simpa using hj
  have hsp : skCells l = skCells (l.take i) ++ skCells (l.drop i) := by rw [← skCells_append, List.take_append_drop]
  have hold : (Builtin.firstCells i0.size i (.slice (some ⟨g, 0, none⟩) i cap)).run Try.prog w.drew = .ok (skCells (l.take i)).toArray w.drew := by
    rw [hz1]
    exact run_firstCells_some w.drew 7 i ⟨g, 0, none⟩ i cap (skCells (l.take i)) hti (fun j v hj => by
      rw [Addr.add_lit, Nat.zero_add]
      exact hall j v (by rw [hsp, List.getElem?_append_left (List.getElem?_eq_some_iff.1 hj).1]; exact hj))
  have hik : i + (n + 1 - i) = n + 1 := by omega
  have hkk : (n : Int) + 1 - (i : Int) = ((n + 1 - i : Nat) : Int) := by omega
  obtain ⟨G, hG⟩ : ∃ G, G = grownCap w (n + 1) cap 71 := ⟨_, rfl⟩
  have hGn : n + 1 ≤ G := by rw [hG]; exact grownCap_ge w _ _ _
  have hGm : G ≤ maxLen := by rw [hG]; exact grownCap_le_maxLen w _ _ _ (by unfold maxLen; omega)
  obtain ⟨z, hz⟩ : ∃ z : Value, z = .agg #[.int .i64 0, .int .i64 0, .int .i64 0, .bool false, .bool false, .bool false, .string ByteArray.empty] := ⟨_, rfl⟩
  have hzc : z.cells.size = 7 := by rw [hz]; rfl
  rw [← hz] at hz0
  obtain ⟨Z, hZ⟩ : ∃ Z : Array Value, Z = Builtin.zeroCells z.cells (n + 1 - i) ++ Builtin.zeroCells z.cells (G - (n + 1)) := ⟨_, rfl⟩
  have hZl : Z.toList.length = (G - i) * 7 := by
    rw [hZ]; simp only [Array.toList_append, List.length_append, Array.length_toList, Builtin.zeroCells, Array.size_map, Array.size_range, hzc]; omega
  obtain ⟨R0, hR0⟩ : ∃ R0, R0 = skCells (l.take i) ++ Z.toList := ⟨_, rfl⟩
  obtain ⟨Y, hY⟩ : ∃ Y, Y = skCells (l.drop i) := ⟨_, rfl⟩
  have hYl : Y.length = (n - i) * 7 := by rw [hY, skCells_len, List.length_drop, ← hn]
  obtain ⟨R1, hR1⟩ : ∃ R1, R1 = R0.take (i * 7) ++ x.cells.toList ++ R0.drop (i * 7 + x.cells.toList.length) := ⟨_, rfl⟩
  obtain ⟨R2, hR2⟩ : ∃ R2, R2 = R1.take ((i + 1) * 7) ++ Y ++ R1.drop ((i + 1) * 7 + Y.length) := ⟨_, rfl⟩
  obtain ⟨l0, l1, l2, hT⟩ := insert_new _ Z.toList l x i G (by omega) (by omega) rfl hZl R0 R1 R2 hR0 hR1 (by rw [hR2, hY])
  have hrz : ∀ ty, (Builtin.append_ #[22, 3] ty #[.slice (some ⟨g, 0, none⟩) i cap, .int .i64 ((n + 1 - i : Nat) : Int)]).run Try.prog w =
      .ok (.slice (some ⟨w.heap.size, 0, none⟩) (n + 1) G) (w.drew.alloc (.cells R0.toArray 71)) := fun ty => by
    have h := Lib.run_append_grow_zeros w 22 3 ty 71 i0 z .i64 .i64 Try.underlying22 Try.underlying3 hinf hz0 (some ⟨g, 0, none⟩) i cap (skCells (l.take i)) hold (n + 1 - i) (by omega) (by omega) (by omega) (by omega) (by rw [hz2]; omega) (by rw [hz2, hik]; exact growslice_fits hroom (by omega))
    rw [hik, ← hG] at h
    rw [h, hR0, hZ]
    congr 3
    simp
  obtain ⟨W1, hW1⟩ : ∃ W1, W1 = w.drew.alloc (.cells R0.toArray 71) := ⟨_, rfl⟩
  have hs1 : W1.heap.size = w.heap.size + 1 := by rw [hW1]; simp
  have k0 : Blk W1 w.heap.size R0.toArray 71 := by rw [hW1]; exact Blk.new w.drew _ _
  have kv : Blk W1 vb x.cells 71 := by rw [hW1]; exact hvb.drew.alloc _
  have hvn : vb ≠ w.heap.size := by have := hvb.lt; omega
  have hgn : g ≠ w.heap.size := by have := hg.lt; omega
  have hcpA : ∀ ty dc, (Builtin.copy_ #[22, 22] ty #[.slice (some ⟨w.heap.size, i * 7, none⟩) (n + 1 - i) dc, .slice (some ⟨vb, 0, none⟩) 1 1]).run Try.prog W1 = .ok (goInt 1) (W1.setRow w.heap.size R1.toArray) := fun ty dc => by
    have hmin : Nat.min 1 (n + 1 - i) = 1 := by simp only [Nat.min_def]; split <;> omega
    have h := run_copy_many (P := Try.prog) W1 22 22 ty 71 7 w.heap.size (i * 7) (n + 1 - i) dc ⟨vb, 0, none⟩ 1 1 R0.toArray 71 x.cells.toList Try.underlying22 Try.sizeSlot k0 (by rw [hmin]; rfl) (fun j v hj => by rw [Addr.add_lit, Nat.zero_add]; exact kv.cell (by simpa using hj)) (by have : x.cells.toList.length = 7 := rfl; simp only [List.size_toArray]; omega) (oneSlot x)
    rw [hmin, ← hR1] at h
    exact h
  obtain ⟨W2, hW2⟩ : ∃ W2, W2 = W1.setRow w.heap.size R1.toArray := ⟨_, rfl⟩
  have k2 : Blk W2.drew w.heap.size R1.toArray 71 := by rw [hW2]; exact setRow_heap _ _ _ _ _ _ k0
  have kg : W2.heap[g]? = w.heap[g]? := by rw [hW2, setRow_other _ _ _ _ hgn, hW1, Below.heap_alloc _ _ _ (by exact hg.lt)]; rfl
  have hcpB : ∀ ty dc sc, (Builtin.copy_ #[22, 22] ty #[.slice (some ⟨w.heap.size, (i + 1) * 7, none⟩) (n + 1 - (i + 1)) dc, .slice (some ⟨g, i * 7, none⟩) (n - i) sc]).run Try.prog W2.drew = .ok (goInt ((n - i : Nat) : Int)) (W2.drew.setRow w.heap.size R2.toArray) := fun ty dc sc => by
    have hmin : Nat.min (n - i) (n + 1 - (i + 1)) = n - i := by simp only [Nat.min_def]; split <;> omega
    have h := run_copy_many (P := Try.prog) W2.drew 22 22 ty 71 7 w.heap.size ((i + 1) * 7) (n + 1 - (i + 1)) dc ⟨g, i * 7, none⟩ (n - i) sc R1.toArray 71 Y Try.underlying22 Try.sizeSlot k2 (by rw [hmin, hYl]) (fun j v hj => by
        rw [Addr.add_lit]
        have hc := hall (i * 7 + j) v (by
          rw [hsp, List.getElem?_append_right (by omega), hti, show i * 7 + j - i * 7 = j by omega, ← hY]; exact hj)
        exact (World.cell?_of_block (w := w) (a := ⟨g, i * 7 + j, none⟩) kg).trans hc) (by simp only [List.size_toArray]; omega) (fun v hv => by
        rw [hY] at hv
        obtain ⟨y, _, hy⟩ := List.mem_flatMap.1 hv
        exact oneSlot y v hy)
    rw [hmin, ← hR2] at h
    exact h
  have hfin : ∀ r, Hid (r = W2.drew.setRow w.heap.size R2.toArray) → r.ownsRow base 71 7 (.slice (some ⟨w.heap.size, 0, none⟩) (n + 1) G) (n + 1) (skCells (l.take i ++ x :: l.drop i)) ∧ w.grownBy r (some g) := fun r hr => by
    rw [hr.out]
    refine ⟨⟨?_, .inr ⟨w.heap.size, G, R2.toArray, rfl, hbase, setRow_heap _ _ _ _ _ _ k2, hGn, hGm, by simpa using l2, by rw [hn]; exact hT⟩⟩, ⟨?_, ?_, ?_, ?_, fun k hk _ => ?_⟩⟩
    · rw [skCells_len, hn]; congr 1; simp; omega
    · rw [hW2, hW1]; rfl
    · rw [hW2, hW1]; rfl
    · rw [hW2, hW1]; rfl
    · rw [hW2, hW1]; simp
    · rw [setRow_other _ _ _ _ (by omega)]
      show W2.heap[k]? = w.heap[k]?
      rw [hW2, setRow_other _ _ _ _ (by omega), hW1, Below.heap_alloc _ _ _ (by exact hk)]; rfl
  have HF : Hid _ := hfin
  have HW1 : Hid (W1 = w.drew.alloc (.cells R0.toArray 71)) := hW1
  have HW2 : Hid (W2 = W1.setRow w.heap.size R1.toArray) := hW2
  rw [← hW1] at hrz
  rw [← hW2] at hcpA
  have hG63 : G ≤ 9223372036854775807 := by unfold maxLen at hGm; omega
  clear hfin hT l0 l1 l2 hYl hR0 hR1 hR2 hY htk hg hvb hn k0 kv k2 kg hW1 hW2 hZl hZ hz hz0 hzc hall hsp hold hti hG hGm
  have hz2 : ¬ ((i : Int) = (n : Int)) := by omega
  have hz3 : (cap : Int) < (n : Int) + 1 := by omega
  have hw1 : IntKind.i64.wrap ((i : Int) + 1) = (i : Int) + 1 := by rw [IntKind.wrap_i64]; omega
  have hb1 : (0 : Int) ≤ (i : Int) + 1 := by omega
  have hin : i ≤ n := by omega
  have htn : ((i : Int) + 1).toNat = i + 1 := by omega
  have hb2 : ¬ (G = i + 1) := by omega
  have hb3 : (i : Int) ≤ (n : Int) + 1 := by omega
  have hb4 : ¬ (G = i) := by omega
  have hb5 : ¬ (cap = i) := by omega
  go_enter Try.func88, Try.ntmps88
  go_wp2_with (first | (at_builtin; refine Lib.wpList_append_run _ rfl _ _ _ _ rfl _ _ rfl rfl _ _ (hrz _) ?_) | (at_builtin; refine wpList_run rfl _ _ 22 22 rfl _ _ rfl rfl (hcpA _ _) ?_))
  go_region_law (refine step_run rfl (.tmp 50) (.tmp 53) 22 22 rfl (.slice (some ⟨w.heap.size, (i + 1) * 7, none⟩) (n + 1 - (i + 1)) (G - (i + 1))) (.slice (some ⟨g, i * 7, none⟩) (n - i) (cap - i)) (by simp [Act.eval, Act.put]) (by simp [Act.eval, Act.put]) (hcpB _ _ _) ?_)
  go_wp2
  go_ret
  exact ⟨_, rfl, HF.out _ rfl⟩

/-- a slot put in at a place -/
def putAt (l : List Sk) (i : Nat) (x : Sk) : List Sk := l.take i ++ x :: l.drop i

theorem insert_any (base n i : Nat) (v : Value) (l : List Sk) (x : Sk) (vb : Nat) (w : World) (hn : n = l.length) (hown : w.ownsRow base 71 7 v n (skCells l)) (hi : i ≤ n) (hsm : n ≤ 1000) (hbase : base ≤ w.heap.size)
    (hvb : Blk w vb x.cells 71) (hne : v.ownBlock ≠ some vb) :
    Calls Try.prog 88 #[v, .int .i64 i, .slice (some ⟨vb, 0, none⟩) 1 1] w fun e w' =>
      ∃ u, e = .returned u ∧ w'.ownsRow base 71 7 u (n + 1) (skCells (putAt l i x)) ∧ w.grownBy w' v.ownBlock := by
  by_cases h : i = n
  · subst h
    have e : putAt l i x = l ++ [x] := by unfold putAt; rw [hn, List.take_length, List.drop_length]
    rw [e]
    exact insert_end base i v l x vb w hn hown hsm hbase hvb
  · obtain ⟨hl, ⟨_, h0⟩ | ⟨g, cap, cur, rfl, hbg, hg, h1, h2, h3, h4⟩⟩ := hown
    · omega
    · by_cases hr : n + 1 ≤ cap
      · exact insert_room base g cap i cur l x vb n w hn hbg hg h2 h3 h4 (by omega) hr hsm hvb (fun e => hne (by rw [e]; rfl))
      · exact insert_grow base g cap i cur l x vb n w hn hbase hg h1 h4 (by omega) (by omega) hsm hvb

end Go.Proofs.Ytnpaejknoipicag
