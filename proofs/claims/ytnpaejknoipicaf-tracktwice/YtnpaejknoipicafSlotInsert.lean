/-
  Contract: slices.Insert of one slot into a row of the call's own.
-/
import Derived.Test.YtnpaejknoipicafSlotFind
import Derived.Test.YtnpaejknoipicafCopyMany
import Derived.Lib.Overlaps
import Derived.Lib.AppendZerosOnto
import Derived.Laws.NewBlocks
namespace Go.Proofs.Ytnpaejknoipicaf
open Go.RowKit

theorem Try.sizeSlot : (Try.prog.info? 41).map (·.size) = some 7 := by kernel_rfl

set_option maxHeartbeats 1000000 in
set_option maxRecDepth 100000 in
/-- at the end -/
theorem insert_end (base n : Nat) (v : Value) (l : List Sk) (x : Sk) (vb : Nat) (w : World) (hn : n = l.length) (hown : w.ownsRow base 41 7 v n (skCells l)) (hsm : n ≤ 1000) (hbase : base ≤ w.heap.size)
    (hvb : Blk w vb x.cells 41) :
    Calls Try.prog 107 #[v, .int .i64 n, .slice (some ⟨vb, 0, none⟩) 1 1] w fun e w' =>
      ∃ u, e = .returned u ∧ w'.ownsRow base 41 7 u (n + 1) (skCells (l ++ [x])) ∧ w.grownBy w' v.ownBlock := by
  obtain ⟨i0, hi, hz0, hz1, hz2⟩ := info_parts Try.infoSlot
  obtain ⟨a, c, hv⟩ : ∃ a c, v = .slice a n c := by
    obtain ⟨_, ⟨rfl, rfl⟩ | ⟨g, cap, cur, rfl, _⟩⟩ := hown
    · exact ⟨_, _, rfl⟩
    · exact ⟨_, _, rfl⟩
  have hnc : n ≤ c := by
    obtain ⟨_, ⟨h, h0⟩ | ⟨g, cap, cur, h, _, _, h1, _⟩⟩ := hown
    · omega
    · rw [hv] at h; cases h; exact h1
  have HO : Hid (w.ownsRow base 41 7 v n (skCells l)) := hown
  have HV : Hid (Blk w vb x.cells 41) := hvb
  obtain ⟨ob, hob⟩ : ∃ ob, ob = v.ownBlock := ⟨_, rfl⟩
  rw [← hob]
  clear hown hvb hn
  subst hv
  have HB : Hid (ob = (Value.slice a n c).ownBlock) := hob
  clear hob
  go_enter Try.func107, Try.ntmps107
  go_wp2_with (at_builtin; refine wpList_append_own2 _ rfl _ _ 36 rfl base 41 i0 _ 7 48 Try.underlying36 hi hz0 hz1 hz2 rfl (by decide) _ n (skCells l) rfl HO.out ⟨vb, 0, none⟩ 1 1 x.cells.toList rfl rfl (fun j u hj => by rw [Addr.add_lit, Nat.zero_add]; exact HV.out.cell (by simpa using hj)) (oneSlot x) (by unfold maxLen; omega) (by omega) hbase ?_; intro v' w2 hown' hgrow _; have HG : Hid (w.grownBy w2 ob) := (by show w.grownBy w2 ob; rw [HB.out]; exact hgrow); clear hgrow)
  all_goals
    go_ret
    rw [skCells_append, skCells_one]
    exact ⟨_, rfl, hown', HG.out⟩

/-- the row behind an insertion in place -/
theorem insert_row (cur : List Value) (l : List Sk) (x : Sk) (i cap : Nat) (hi : i < l.length) (hcap : l.length + 1 ≤ cap) (hs : cur.length = cap * 7) (ht : cur.take (l.length * 7) = skCells l)
    (r1 r2 : List Value) (h1 : r1 = cur.take ((i + 1) * 7) ++ skCells (l.drop i) ++ cur.drop ((i + 1) * 7 + (skCells (l.drop i)).length)) (h2 : r2 = r1.take (i * 7) ++ x.cells.toList ++ r1.drop (i * 7 + x.cells.toList.length)) :
    r2.length = cap * 7 ∧ r2.take ((l.length + 1) * 7) = skCells (l.take i ++ x :: l.drop i) := by
  have hx : x.cells.toList.length = 7 := rfl
  have hd : (skCells (l.drop i)).length = (l.length - i) * 7 := by rw [skCells_len, List.length_drop]
  have e0 : skCells l = skCells (l.take i) ++ skCells (l.drop i) := by rw [← skCells_append, List.take_append_drop]
  have hti : (skCells (l.take i)).length = i * 7 := by rw [skCells_len, List.length_take]; congr 1; omega
  have e1 : cur.take (i * 7) = skCells (l.take i) := by
    have : cur.take (i * 7) = (cur.take (l.length * 7)).take (i * 7) := by rw [List.take_take]; congr 1; omega
    rw [this, ht, e0, List.take_left' hti]
  have l1 : r1.length = cap * 7 := by
    rw [h1]; simp only [List.length_append, List.length_take, List.length_drop, hd, hs]; omega
  have e2 : r1.take (i * 7) = skCells (l.take i) := by
    rw [h1, List.append_assoc, List.take_append_of_le_length (by rw [List.length_take, hs]; omega), List.take_take, ← e1]; congr 1; omega
  have e3 : r1.drop (i * 7 + 7) = skCells (l.drop i) ++ cur.drop ((i + 1) * 7 + (skCells (l.drop i)).length) := by
    rw [h1, List.append_assoc]
    exact List.drop_left' (by rw [List.length_take, hs]; omega)
  rw [hx, e2, e3] at h2
  constructor
  · rw [h2]; simp only [List.length_append, List.length_drop, hti, hx, hd, hs]; omega
  · rw [h2, skCells_append, show skCells (x :: l.drop i) = x.cells.toList ++ skCells (l.drop i) from rfl, ← List.append_assoc, ← List.append_assoc]
    exact List.take_left' (by simp only [List.length_append, hti, hx, hd]; omega)

set_option maxHeartbeats 4000000 in
set_option maxRecDepth 100000 in
/-- in between, where there is room -/
theorem insert_room (base g cap i : Nat) (cur : Array Value) (l : List Sk) (x : Sk) (vb n : Nat) (w : World) (hn : n = l.length) (hbg : base ≤ g) (hg : Blk w g cur 41) (hcm : cap ≤ maxLen) (hcs : cur.size = cap * 7) (htk : cur.toList.take (n * 7) = skCells l)
    (hi : i < n) (hroom : n + 1 ≤ cap) (hsm : n ≤ 1000) (hvb : Blk w vb x.cells 41) (hne : vb ≠ g) :
    Calls Try.prog 107 #[.slice (some ⟨g, 0, none⟩) n cap, .int .i64 i, .slice (some ⟨vb, 0, none⟩) 1 1] w fun e w' =>
      ∃ u, e = .returned u ∧ w'.ownsRow base 41 7 u (n + 1) (skCells (l.take i ++ x :: l.drop i)) ∧ w.grownBy w' (some g) := by
  have hov : ∀ lb cb, (callFunc 109 #[.slice (some ⟨vb, 0, none⟩) 1 1, .slice (some ⟨g, (i + 1) * 7, none⟩) lb cb]).run Try.prog w = .ok (.value (.bool false)) w := fun lb cb => by
    have hsa : w.shape? vb = some (41, 7) := by
      have h : w.heap[vb]? = some (.cells x.cells 41 (0, 0)) := hvb
      unfold World.shape?; rw [h]; rfl
    have hsb : w.shape? g = some (41, cap * 7) := by
      have h : w.heap[g]? = some (.cells cur 41 (0, 0)) := hg
      unfold World.shape?; rw [h, ← hcs]
    rw [run_callFunc_extern Try.func109 (by kernel_rfl) (by kernel_rfl) (by kernel_rfl) (e := Extern.SlicesOverlaps.overlaps #[36, 36] #[4]) (by kernel_rfl),
      Lib.run_overlaps_apart w 36 4 41 Try.underlying36 7 (fun w => Try.sizeOf41 w) ⟨vb, 0, none⟩ ⟨g, (i + 1) * 7, none⟩ 1 1 lb cb hne 41 41 7 (cap * 7) hsa hsb (by omega) (hvb.free 0) (hvb.free 7)]
    rfl
  obtain ⟨Y, hY⟩ : ∃ Y, Y = skCells (l.drop i) := ⟨_, rfl⟩
  have hYl : Y.length = (n - i) * 7 := by rw [hY, skCells_len, List.length_drop, ← hn]
  obtain ⟨R1, hR1⟩ : ∃ R1, R1 = cur.toList.take ((i + 1) * 7) ++ Y ++ cur.toList.drop ((i + 1) * 7 + Y.length) := ⟨_, rfl⟩
  obtain ⟨R2, hR2⟩ : ∃ R2, R2 = R1.take (i * 7) ++ x.cells.toList ++ R1.drop (i * 7 + x.cells.toList.length) := ⟨_, rfl⟩
  obtain ⟨hL2, hT2⟩ := insert_row cur.toList l x i cap (by omega) (by omega) (by simpa using hcs) (by rw [← hn]; exact htk) R1 R2 (by rw [hR1, hY]) hR2
  have hYat : ∀ j v, Y[j]? = some v → w.cell? ((⟨g, i * 7, none⟩ : Addr).add j) = some v := fun j v hj => by
    have hj2 : j < Y.length := (List.getElem?_eq_some_iff.1 hj).1
    rw [Addr.add_lit]
    refine hg.cell ?_
    have : (skCells l)[i * 7 + j]? = some v := by
      rw [show skCells l = skCells (l.take i) ++ Y by rw [hY, ← skCells_append, List.take_append_drop], List.getElem?_append_right (by rw [skCells_len, List.length_take]; omega)]
      rw [skCells_len, List.length_take, show i * 7 + j - min i l.length * 7 = j by rw [Nat.min_eq_left (by omega)]; omega]
      exact hj
    rw [← htk, List.getElem?_take, if_pos (by omega)] at this
    simpa using this
  have hY1 : ∀ v ∈ Y, v.oneCell' = true := fun v hv => by
    rw [hY] at hv
    obtain ⟨y, _, hy⟩ := List.mem_flatMap.1 hv
    exact oneSlot y v hy
  have hcp1 : ∀ ty, (Builtin.copy_ #[36, 36] ty #[.slice (some ⟨g, (i + 1) * 7, none⟩) (n + 1 - (i + 1)) (cap - (i + 1)), .slice (some ⟨g, i * 7, none⟩) (n + 1 - i) (cap - i)]).run Try.prog w.drew = .ok (goInt ((n - i : Nat) : Int)) (w.drew.setRow g R1.toArray) := fun ty => by
    have hmin : Nat.min (n + 1 - i) (n + 1 - (i + 1)) = n - i := by simp only [Nat.min_def]; split <;> omega
    have h := run_copy_many (P := Try.prog) w.drew 36 36 ty 41 7 g ((i + 1) * 7) (n + 1 - (i + 1)) (cap - (i + 1)) ⟨g, i * 7, none⟩ (n + 1 - i) (cap - i) cur 41 Y Try.underlying36 Try.sizeSlot hg (by rw [hmin, hYl]) hYat (by omega) hY1
    rw [hmin, ← hR1] at h
    exact h
  have hl1 : R1.length = cap * 7 := by
    rw [hR1]; simp only [List.length_append, List.length_take, List.length_drop, hYl, Array.length_toList]; omega
  have hg1 : Blk (w.drew.setRow g R1.toArray) g R1.toArray 41 := setRow_heap _ _ cur _ _ _ hg
  have hcp2 : ∀ ty, (Builtin.copy_ #[36, 36] ty #[.slice (some ⟨g, i * 7, none⟩) (n + 1 - i) (cap - i), .slice (some ⟨vb, 0, none⟩) 1 1]).run Try.prog (w.drew.setRow g R1.toArray) = .ok (goInt 1) (w.drew.setRow g R2.toArray) := fun ty => by
    have hmin : Nat.min 1 (n + 1 - i) = 1 := by simp only [Nat.min_def]; split <;> omega
    have h := run_copy_many (P := Try.prog) (w.drew.setRow g R1.toArray) 36 36 ty 41 7 g (i * 7) (n + 1 - i) (cap - i) ⟨vb, 0, none⟩ 1 1 R1.toArray 41 x.cells.toList Try.underlying36 Try.sizeSlot hg1 (by rw [hmin]; rfl) (fun j v hj => by rw [Addr.add_lit, Nat.zero_add, cell_setRow_other _ _ _ _ hne]; exact hvb.cell (by simpa using hj)) (by have : x.cells.toList.length = 7 := rfl; simp only [List.size_toArray]; omega) (oneSlot x)
    rw [hmin, ← hR2, setRow_setRow] at h
    exact h
  have hfin : ∀ r, Hid (r = w.drew.setRow g R2.toArray) → r.ownsRow base 41 7 (.slice (some ⟨g, 0, none⟩) (n + 1) cap) (n + 1) (skCells (l.take i ++ x :: l.drop i)) ∧ w.grownBy r (some g) := fun r hr => by
    rw [hr.out]
    refine ⟨⟨?_, .inr ⟨g, cap, R2.toArray, rfl, hbg, setRow_heap _ _ cur _ _ _ hg, hroom, hcm, by simpa using hL2, by rw [hn]; exact hT2⟩⟩, ⟨rfl, rfl, rfl, by simp, fun k _ hk => setRow_other _ _ _ _ (fun e => hk (by rw [e]))⟩⟩
    rw [skCells_len, hn]; congr 1; simp; omega
  have HF : Hid _ := hfin
  clear hfin hL2 hT2 hg1 hl1 hYat hY1 hYl hR1 hR2 hY htk hcs hg hvb hn
  have hz2 : ¬ ((i : Int) = (n : Int)) := by omega
  have hw1 : IntKind.i64.wrap ((i : Int) + 1) = (i : Int) + 1 := by rw [IntKind.wrap_i64]; unfold maxLen at hcm; omega
  have hb1 : (0 : Int) ≤ (i : Int) + 1 := by omega
  have hin : i ≤ n := by omega
  have htn : ((i : Int) + 1).toNat = i + 1 := by omega
  have hb2 : ¬ (cap = i + 1) := by omega
  have hb3 : (i : Int) ≤ (n : Int) + 1 := by omega
  have hb4 : ¬ (cap = i) := by omega
  go_enter Try.func107, Try.ntmps107
  go_wp2_with (simp only [hov])
  go_region_law (refine step_run rfl (.tmp 73) (.tmp 76) 36 36 rfl (.slice (some ⟨g, (i + 1) * 7, none⟩) (n + 1 - (i + 1)) (cap - (i + 1))) (.slice (some ⟨g, i * 7, none⟩) (n + 1 - i) (cap - i)) (by simp [Act.eval, Act.put]) (by simp [Act.eval, Act.put]) (hcp1 _) ?_)
  go_wp2_with (at_builtin; refine wpList_run rfl _ _ 36 36 rfl _ _ rfl rfl (hcp2 _) ?_)
  go_ret
  exact ⟨_, rfl, HF.out _ rfl⟩

end Go.Proofs.Ytnpaejknoipicaf
