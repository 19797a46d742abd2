/-
 Contracts: group.isInPlace, group.Check, group.Size.
-/
import Derived.Test.YtnpaejknoipicagGreatMgDeskPaused3
import Derived.Deep.LoopGhost
import Derived.Deep.QuietTactic
import Derived.BigQuiet
import Derived.Lib.QuietBelow
import Derived.Test.YtnpaejknoipicagGreatMgDeskPaused2
import Derived.Test.YtnpaejknoipicagGreatMgDeskPaused1
namespace Go.Proofs.YtnpaejknoipicagGreat
open Go.RowKit
def Keep (base K : Nat) (w : World) (next : Int) (h o : List Sk) : Prop :=
 ∃ (a : Option Addr) (c : Nat) (ov : Value), Blk w K #[.int .i64 next, .slice a h.length c, ov] 194 ∧ Sls w (.slice a h.length c) h ∧ h.length ≤ c ∧
  (∀ g, (Value.slice a h.length c).ownBlock = some g → base ≤ g ∧ ∃ cur, Blk w g cur 106) ∧ w.ownsRow base 106 7 ov o.length (skCells o) ∧ Apart ov (.slice a h.length c)
theorem Keep.heap {base K : Nat} {w w' : World} {next : Int} {h o : List Sk} (hk : Keep base K w next h o) (e : w'.heap = w.heap) : Keep base K w' next h o := by
 obtain ⟨a, c, ov, kK, kS, kc, kB, kO, kA⟩ := hk
 have eb : ∀ {g : Nat} {C : Array Value} {t : TypeId}, Blk w g C t → Blk w' g C t := fun h => by unfold Blk at h ⊢; rw [e]; exact h
 refine ⟨a, c, ov, eb kK, ?_, kc, fun g hg => ?_, owns_same kO (fun g _ => by rw [e]), kA⟩
 ·obtain ⟨hl, h | ⟨b, off, c, hv, hb, hc⟩⟩ := kS
  ·exact ⟨hl, .inl h⟩
  ·exact ⟨hl, .inr ⟨b, off, c, hv, by rw [e]; exact hb, fun j u hj => (World.cell?_of_block (by rw [e])).trans (hc j u hj)⟩⟩
 ·obtain ⟨h1, cur, h2⟩ := kB g hg
  exact ⟨h1, cur, eb h2⟩
theorem Keep.drewN {base K : Nat} {w : World} {next : Int} {h o : List Sk} (hk : Keep base K w next h o) (q : Nat) : Keep base K (w.drewN q) next h o := hk.heap (heap_drewN w q)
def Nums (h : List Sk) : Prop := ∀ x ∈ h, 65536 ≤ x.n ∧ x.n ≤ 1000000000
theorem Sls.cons {w : World} {a : Option Addr} {c : Nat} {x : Sk} {r : List Sk} (h : Sls w (.slice a (x :: r).length c) (x :: r)) :
  ∃ g off, a = some ⟨g, off, none⟩ ∧ g < w.heap.size ∧ At7 w g off x := by
 obtain ⟨ao, c', hv, hc⟩ := h.parts
 cases hv
 obtain ⟨g, off, h1, h2, h3⟩ := hc 0 (by simp)
 refine ⟨g, off, h1, h2, ?_⟩
 simpa using h3
theorem Sls.tail {w : World} {g off c : Nat} {x : Sk} {r : List Sk} (h : Sls w (.slice (some ⟨g, off, none⟩) (x :: r).length c) (x :: r)) : Sls w (.slice (some ⟨g, off + 7, none⟩) r.length (c - 1)) r := by
 obtain ⟨hl, ⟨h0, _⟩ | ⟨b, o, c', hv, hb, hc⟩⟩ := h
 ·simp at h0
 ·cases hv
  refine ⟨skCells_len r, .inr ⟨g, off + 7, c - 1, rfl, hb, fun j u hj => ?_⟩⟩
  rw [Nat.add_assoc]
  refine hc (7 + j) u ?_
  show (x.cells.toList ++ skCells r)[7 + j]? = some u
  rw [List.getElem?_append_right (by simp [Sk.cells]), show 7 + j - x.cells.toList.length = j by simp [Sk.cells]]
  exact hj
theorem letOut_more {base K g off m c c' : Nat} {next' : Int} {x : Sk} {r o' : List Sk} {R : Int × List Sk × List Sk} {w w2 : World} {ov : Value} {a' : Option Addr} (hbK : base ≤ K) (hbg : base ≤ g) (hnu : Nums (x :: r)) (hne : 0 ≤ next' ∧ next' ≤ 1000000001) (hle : (x :: r).length + o'.length ≤ 100)
  (HL : letF next' (x :: r) o' = R) (hxn : x.n = next') (hxr : r.length + 1 = m) (kc : (x :: r).length ≤ c)
  (G : Blk w2 K #[.int .i64 next', .slice (some ⟨g, off, none⟩) m c, ov] 194 ∧ Sls w2 (.slice (some ⟨g, off, none⟩) (x :: r).length c) (x :: r) ∧ (∃ cur, Blk w2 g cur 106) ∧ w2.ownsRow base 106 7 (.slice a' (o'.length + 1) c') (o'.length + 1) (skCells o' ++ x.cells.toList) ∧
   (Value.slice a' (o'.length + 1) c').ownBlock ≠ some g ∧ Below base w w2)
  (H : Value) (w3 : World) (hH : H = .slice (some ⟨g, off + 7, none⟩) (m - 1) (c - 1) ∨ H = .slice (some ⟨g, off, none⟩) 0 0 ∧ c = 1) (hw3 : w3 = ((w2.setCell ⟨K, 2, none⟩ (.slice a' (o'.length + 1) c')).setCell ⟨K, 1, none⟩ H).setCell ⟨K, 0, none⟩ (.int .i64 (next' + 1))) :
  Keep base K w3 (next' + 1) r (o' ++ [x]) ∧ letF (next' + 1) r (o' ++ [x]) = R ∧ Nums r ∧ (0 ≤ next' + 1 ∧ next' + 1 ≤ 1000000001) ∧ r.length + (o' ++ [x]).length ≤ 100 ∧ Below base w w3 ∧ r.length ≤ r.length := by
 obtain ⟨g1, g2, ⟨cur, g3⟩, g4, g5, g6⟩ := G
 have hx := hnu x (by simp)
 have hKg : K ≠ g := Apart_type g1 g3 (by decide)
 have hblk : ∀ j, j ≠ K → w3.heap[j]? = w2.heap[j]? := fun j hj => by
  rw [hw3, Below.heap_setCell _ _ _ _ (by exact hj), Below.heap_setCell _ _ _ _ (by exact hj), Below.heap_setCell _ _ _ _ (by exact hj)]
 have hsz : w3.heap.size = w2.heap.size := by rw [hw3]; simp
 have k3 : Blk w3 K #[.int .i64 (next' + 1), H, .slice a' (o'.length + 1) c'] 194 := by rw [hw3]; exact ((g1.set 2 _).set 1 _).set 0 _
 have hm : r.length = m - 1 := by omega
 have hol : (o' ++ [x]).length = o'.length + 1 := by simp
 have hsl : Sls w3 (.slice (some ⟨g, off + 7, none⟩) r.length (c - 1)) r := by
  obtain ⟨hl, ⟨h0, b, cc, hv⟩ | ⟨b, of2, c3, hv, hb, hc⟩⟩ := g2.tail
  ·exact ⟨hl, .inl ⟨h0, b, cc, hv⟩⟩
  ·cases hv
   exact ⟨hl, .inr ⟨g, off + 7, c - 1, rfl, by rw [hsz]; exact hb, fun j u hj => (World.cell?_of_block (hblk g (Ne.symm hKg))).trans (hc j u hj)⟩⟩
 have hrow : w3.ownsRow base 106 7 (.slice a' (o'.length + 1) c') (o' ++ [x]).length (skCells (o' ++ [x])) := by
  rw [hol, skCells_append, skCells_one]
  refine owns_same g4 fun j hj => hblk j (fun e => ?_)
  obtain ⟨_, cu, h3⟩ := owns_blk g4 hj
  exact Apart_type g1 h3 (by decide) e.symm
 refine ⟨?_, by rw [← HL]; simp only [letF, if_pos hxn], fun y hy => hnu y (by simp [hy]), by omega, by simp at hle ⊢; omega, by rw [hw3]; exact ((g6.setCell (by exact hbK) _).setCell (by exact hbK) _).setCell (by exact hbK) _, Nat.le_refl _⟩
 simp only [List.length_cons] at kc
 rcases hH with rfl | ⟨rfl, rfl⟩
 ·refine ⟨some ⟨g, off + 7, none⟩, c - 1, .slice a' (o'.length + 1) c', by rw [hm]; exact k3, hsl, by omega, fun g' hg' => ?_, hrow, fun g' h1 h2 => ?_⟩
  ·simp [Value.ownBlock] at hg'; subst hg'
   exact ⟨hbg, cur, (hblk g (Ne.symm hKg)).trans g3⟩
  ·simp only [Value.ownBlock, Option.some.injEq] at h2; subst h2; exact g5 h1
 ·have hr0 : r = [] := List.eq_nil_of_length_eq_zero (by omega)
  subst hr0
  refine ⟨some ⟨g, off, none⟩, 0, .slice a' (o'.length + 1) c', k3, ⟨rfl, .inl ⟨rfl, _, _, rfl⟩⟩, by simp, fun g' hg' => ?_, hrow, fun g' h1 h2 => ?_⟩
  ·simp [Value.ownBlock] at hg'; subst hg'
   exact ⟨hbg, cur, (hblk g (Ne.symm hKg)).trans g3⟩
  ·simp only [Value.ownBlock, Option.some.injEq] at h2; subst h2; exact g5 h1
set_option maxHeartbeats 2000000 in
set_option maxRecDepth 100000 in
theorem letOut_any (base K : Nat) (next : Int) (h o : List Sk) (w : World) (hk : Keep base K w next h o) (hbK : base ≤ K) (hnums : Nums h) (hn0 : 0 ≤ next ∧ next ≤ 1000000001) (hlen : h.length + o.length ≤ 100) :
  Calls Tryz.prog 164 #[.pointer (some ⟨K, 0, none⟩)] w fun e w' => e = .returned (.tuple #[]) ∧ Keep base K w' (letF next h o).1 (letF next h o).2.1 (letF next h o).2.2 ∧ Below base w w' := by
 obtain ⟨i0, hi, hz0, hz1, hz2⟩ := info_parts Tryz.infoSlot
 obtain ⟨R, hR⟩ : ∃ R, R = letF next h o := ⟨_, rfl⟩
 rw [← hR]
 go_enter Tryz.func164, Tryz.ntmps164
 go_wp2
 go_loopg [] h.length (fun gg wr => ∃ next' h' o', Hid (Keep base K wr next' h' o') ∧ Hid (letF next' h' o' = R) ∧ Nums h' ∧ (0 ≤ next' ∧ next' ≤ 1000000001) ∧ h'.length + o'.length ≤ 100 ∧ Hid (Below base w wr) ∧ h'.length ≤ gg)
 case atStart => exact ⟨next, h, o, hk, hR.symm, hnums, hn0, hlen, Below.refl _ _, Nat.le_refl _⟩
 case round =>
  obtain ⟨next', h', o', HK, HL, hnu, hne, hle, HB, hgg⟩ := hrel
  obtain ⟨a, c, ov, kK, kS, kc, kB, kO, kA⟩ := HK.out
  obtain ⟨d0, d1, d2⟩ := kK.three
  have hKw := kK.lt
  cases h' with
  | nil =>
   simp only [List.length_nil] at d1
   have hd : decide ((0 : Int) < 0) = false := rfl
   clear kK kS kc kB kO kA hk hR
   go_wp2
   go_quiet (fail)
   go_wp2
   go_end0
   rw [← HL.out]
   exact ⟨rfl, HK.out.drewN nq, HB.out.trans (below_drewN (Below.refl _ _) nq)⟩
  | cons x r =>
   obtain ⟨g, off, rfl, hgl, hat⟩ := kS.cons
   obtain ⟨c0, c1, c2, c3, c4, c5, c6⟩ := hat
   obtain ⟨m, hm⟩ : ∃ m, m = (x :: r).length := ⟨_, rfl⟩
   have HM : Hid (m = (x :: r).length) := hm
   rw [← hm] at d1
   have hm1 : (0 : Int) < (m : Int) := by simp at hm; omega
   have hm3 : 0 < m := by omega
   have hm2 : decide (0 < m) = true := decide_eq_true hm3
   by_cases hxn : x.n = next'
   ·clear hk hR hm
    go_wp2
    go_quiet (fail)
    obtain ⟨W, hW⟩ : ∃ W, W = wr.drewN nq := ⟨_, rfl⟩
    have HKW : Hid (Keep base K W next' (x :: r) o') := by show Keep _ _ _ _ _ _; rw [hW]; exact HK.out.drewN nq
    have HBW : Hid (Below base w W) := by show Below _ _ _; rw [hW]; exact HB.out.trans (below_drewN (Below.refl _ _) nq)
    rw [← hW]
    have HXN : Hid (x.n = next') := hxn
    clear hxn hW HK HB kK kS kB kO kA kc d0 d1 d2 c0 c1 c2 c3 c4 c5 c6 hgl hKw hm1 hm2 hm3 HM
    obtain ⟨a2, c, ov, kK, kS, kc, kB, kO, kA⟩ := HKW.out
    obtain ⟨d0, d1, d2⟩ := kK.three
    have hKw := kK.lt
    obtain ⟨g, off, rfl, hgl, hat⟩ := kS.cons
    obtain ⟨c0, c1, c2, c3, c4, c5, c6⟩ := hat
    obtain ⟨m, hm⟩ : ∃ m, m = (x :: r).length := ⟨_, rfl⟩
    have HM : Hid (m = (x :: r).length) := hm
    rw [← hm] at d1
    have hm1 : (0 : Int) < (m : Int) := by simp at hm; omega
    have hm3 : 0 < m := by omega
    obtain ⟨hbg, curg, kg⟩ := kB g rfl
    have hxr : Hid (r.length + 1 = m) := by show r.length + 1 = m; rw [hm]; simp
    clear hm
    have own1 : Hid ((W.alloc (.cells #[.int .i64 x.n, .int .i64 x.p.seq, .int .i64 x.p.time, .bool x.p.f, .bool x.p.e, .bool x.p.k, .string x.p.t] 106)).drew.ownsRow base 106 7 ov o'.length (skCells o')) := kO.alloc _
    have new1 : Hid (∀ j u, x.cells.toList[j]? = some u → (W.alloc (.cells #[.int .i64 x.n, .int .i64 x.p.seq, .int .i64 x.p.time, .bool x.p.f, .bool x.p.e, .bool x.p.k, .string x.p.t] 106)).drew.cell? ((⟨W.heap.size, 0, none⟩ : Addr).add j) = some u) := newSlot rfl
    have hbW : Hid (base ≤ (W.alloc (.cells #[.int .i64 x.n, .int .i64 x.p.seq, .int .i64 x.p.time, .bool x.p.f, .bool x.p.e, .bool x.p.k, .string x.p.t] 106)).drew.heap.size) := by show base ≤ (W.alloc _).heap.size; have := HBW.out.size; simp; omega
    have aft : Hid (∀ v' w2, w2.ownsRow base 106 7 v' (o'.length + 1) (skCells o' ++ x.cells.toList) → (W.alloc (.cells #[.int .i64 x.n, .int .i64 x.p.seq, .int .i64 x.p.time, .bool x.p.f, .bool x.p.e, .bool x.p.k, .string x.p.t] 106)).drew.grownBy w2 ov.ownBlock →
      (v'.ownBlock = ov.ownBlock ∨ ∀ g, v'.ownBlock = some g → (W.alloc (.cells #[.int .i64 x.n, .int .i64 x.p.seq, .int .i64 x.p.time, .bool x.p.f, .bool x.p.e, .bool x.p.k, .string x.p.t] 106)).drew.heap.size ≤ g) →
      ∃ a' c', v' = .slice a' (o'.length + 1) c' ∧ w2.cell? ⟨K, 0, none⟩ = some (.int .i64 next') ∧ w2.cell? ⟨K, 1, none⟩ = some (.slice (some ⟨g, off, none⟩) m c) ∧ w2.cell? ⟨K, 2, none⟩ = some ov ∧ (∀ j, w2.frozen? ⟨K, j, none⟩ = false) ∧ 
       Hid (Blk w2 K #[.int .i64 next', .slice (some ⟨g, off, none⟩) m c, ov] 194 ∧ Sls w2 (.slice (some ⟨g, off, none⟩) (x :: r).length c) (x :: r) ∧ (∃ cur, Blk w2 g cur 106) ∧ w2.ownsRow base 106 7 (.slice a' (o'.length + 1) c') (o'.length + 1) (skCells o' ++ x.cells.toList) ∧
        (Value.slice a' (o'.length + 1) c').ownBlock ≠ some g ∧ Below base w w2)) := by
     intro v' w2 ho2 hg2 hd2
     obtain ⟨a', c', rfl⟩ := Sl.len (Sl.of_owns ho2)
     have hKo : some K ≠ ov.ownBlock := fun e => by
      obtain ⟨_, cur, h3⟩ := owns_blk kO e.symm
      exact Apart_type kK h3 (by decide) rfl
     have hgo : some g ≠ ov.ownBlock := fun e => kA g e.symm rfl
     have k2 : Blk w2 K #[.int .i64 next', .slice (some ⟨g, off, none⟩) m c, ov] 194 := (hg2.block K (by show K < (W.alloc _).heap.size; simp; omega) hKo).trans (by have := kK.alloc (.cells #[.int .i64 x.n, .int .i64 x.p.seq, .int .i64 x.p.time, .bool x.p.f, .bool x.p.e, .bool x.p.k, .string x.p.t] 106); rw [HM.out]; exact this)
     have hbg2 : w2.heap[g]? = W.heap[g]? := (hg2.block g (by show g < (W.alloc _).heap.size; simp; omega) hgo).trans (Below.heap_alloc W _ g hgl)
     obtain ⟨e0, e1, e2⟩ := k2.three
     refine ⟨a', c', rfl, e0, e1, e2, k2.free, k2, ?_, ⟨curg, hbg2.trans kg⟩, ho2, ?_, ?_⟩
     ·obtain ⟨hl, ⟨h0, _⟩ | ⟨b, of2, c3, hv, hb, hc⟩⟩ := kS
      ·simp at h0
      ·cases hv
       exact ⟨hl, .inr ⟨g, off, c, rfl, by have := hg2.size; simp at this; omega, fun j u hj => (World.cell?_of_block hbg2).trans (hc j u hj)⟩⟩
     ·intro e
      rcases hd2 with hd2 | hd2
      ·exact hgo (e.symm.trans hd2)
      ·have := hd2 g e
       simp at this; omega
     ·exact ((HBW.out.alloc (by have := HBW.out.size; omega) _).drew).grown hg2 (by show base ≤ (W.alloc _).heap.size; have := HBW.out.size; simp; omega) (fun j hj => (kO.lt j hj).1)
    go_wp2
    go_region_law (refine step_append_own2 rfl (.tmp 29) (.tmp 37) 22 rfl base 106 i0 _ 7 48 Tryz.underlying22 hi hz0 hz1 hz2 rfl (by decide) ov o'.length (skCells o') (by simp [Act.eval]) own1.out ⟨W.heap.size, 0, none⟩ 1 1 x.cells.toList (by simp [Act.eval]) rfl new1.out (oneSlot x) (by unfold maxLen; omega) (by omega) hbW.out ?_; intro v' w2 ho2 hg2 hd2; obtain ⟨a', c', hv', g0, g1, g2, gf, G⟩ := aft.out v' w2 ho2 hg2 hd2; clear ho2 hg2 hd2; subst hv')
    all_goals clear own1 new1 hbW aft kK kS kB kO kA kg HKW HBW d0 d1 d2 c0 c1 c2 c3 c4 c5 c6
    all_goals
     have fin : ∀ (H : Value) (w3 : World), Hid (H = .slice (some ⟨g, off + 7, none⟩) (m - 1) (c - 1) ∨ H = .slice (some ⟨g, off, none⟩) 0 0 ∧ c = 1) → Hid (w3 = ((w2.setCell ⟨K, 2, none⟩ (.slice a' (o'.length + 1) c')).setCell ⟨K, 1, none⟩ H).setCell ⟨K, 0, none⟩ (.int .i64 (next' + 1))) →
       Hid (Keep base K w3 (next' + 1) r (o' ++ [x])) ∧ Hid (letF (next' + 1) r (o' ++ [x]) = R) ∧ Nums r ∧ (0 ≤ next' + 1 ∧ next' + 1 ≤ 1000000001) ∧ r.length + (o' ++ [x]).length ≤ 100 ∧ Hid (Below base w w3) ∧ r.length ≤ r.length :=
      letOut_more hbK hbg hnu hne hle HL.out HXN.out hxr.out kc G.out
     have FIN := @id (Hid _) fin
     obtain ⟨hne1, hne2⟩ := hne
     clear fin G HL HXN hnu
     by_cases hc1 : c = 1
     ·have hm1' : m = 1 := by have := hxr.out; simp at kc; omega
      subst hc1 hm1'
      go_wp2
      go_roundg r.length
      case measure => simp at hgg; omega
      case rel => exact ⟨_, _, _, FIN.out _ _ (.inr ⟨rfl, trivial⟩) rfl⟩
     ·have hmi : (1 : Int) ≤ (m : Int) := by omega
      go_wp2
      go_roundg r.length
      case measure => simp at hgg; omega
      case rel => exact ⟨_, _, _, FIN.out _ _ (.inl rfl) rfl⟩
   ·clear kK kS kc kB kO kA hk hR hm
    go_wp2
    go_quiet (fail)
    go_wp2
    go_end0
    have hL := HL.out
    simp only [letF, if_neg hxn] at hL
    rw [← hL]
    exact ⟨rfl, HK.out.drewN nq, HB.out.trans (below_drewN (Below.refl _ _) nq)⟩
theorem letF_facts : ∀ (h : List Sk) (next : Int) (o : List Sk), Nums h → (0 ≤ next ∧ next ≤ 1000000001) →
  Nums (letF next h o).2.1 ∧ (0 ≤ (letF next h o).1 ∧ (letF next h o).1 ≤ 1000000001) ∧ (letF next h o).2.1.length + (letF next h o).2.2.length = h.length + o.length
 | [], next, o, hn, hb => ⟨hn, hb, rfl⟩
 | x :: r, next, o, hn, hb => by
  unfold letF
  split
  ·have hx := hn x (by simp)
   have := letF_facts r (next + 1) (o ++ [x]) (fun y hy => hn y (by simp [hy])) (by omega)
   refine ⟨this.1, this.2.1, ?_⟩
   rw [this.2.2]; simp; omega
  ·exact ⟨hn, hb, rfl⟩
set_option maxHeartbeats 2000000 in
set_option maxRecDepth 100000 in
theorem giveUpTo_any (base K most : Nat) (next : Int) (h o : List Sk) (w : World) (hk : Keep base K w next h o) (hbK : base ≤ K) (hnums : Nums h) (hn0 : 0 ≤ next ∧ next ≤ 1000000001) (hlen : h.length + o.length ≤ 100) :
  Calls Tryz.prog 144 #[.pointer (some ⟨K, 0, none⟩), .int .i64 most] w fun e w' =>
   e = .returned (.tuple #[]) ∧ Keep base K w' (giveF most h.length next h o).1 (giveF most h.length next h o).2.1 (giveF most h.length next h o).2.2 ∧ Below base w w' := by
 obtain ⟨R, hR⟩ : ∃ R, R = giveF most h.length next h o := ⟨_, rfl⟩
 rw [← hR]
 go_enter Tryz.func144, Tryz.ntmps144
 go_wp2
 go_loopg [] h.length (fun gg wr => ∃ next' h' o', Hid (Keep base K wr next' h' o') ∧ Hid (giveF most gg next' h' o' = R) ∧ Nums h' ∧ (0 ≤ next' ∧ next' ≤ 1000000001) ∧ h'.length + o'.length ≤ 100 ∧ Hid (Below base w wr) ∧ h'.length ≤ gg)
 case atStart => exact ⟨next, h, o, hk, hR.symm, hnums, hn0, hlen, Below.refl _ _, Nat.le_refl _⟩
 case round =>
  obtain ⟨next', h', o', HK, HL, hnu, hne, hle, HB, hgg⟩ := hrel
  obtain ⟨a, c, ov, kK, kS, kc, kB, kO, kA⟩ := HK.out
  obtain ⟨d0, d1, d2⟩ := kK.three
  have hKw := kK.lt
  by_cases hm : h'.length ≤ most
  ·have hmi : ((h'.length : Nat) : Int) ≤ (most : Int) := by omega
   have hG : Hid (giveF most gk next' h' o' = (next', h', o')) := by
    show giveF most gk next' h' o' = (next', h', o')
    cases gk with
    | zero => rfl
    | succ f =>
     cases h' with
     | nil => rfl
     | cons x r => simp only [List.length_cons] at hm; simp only [giveF, if_pos hm]
   obtain ⟨n, hn⟩ : ∃ n, n = h'.length := ⟨_, rfl⟩
   rw [← hn] at d1 hmi
   clear kK kS kc kB kO kA hk hR hn
   go_wp2
   go_end0
   rw [← HL.out, hG.out]
   exact ⟨rfl, HK.out, HB.out⟩
  ·cases h' with
   | nil => simp at hm
   | cons x r =>
    obtain ⟨g, off, rfl, hgl, hat⟩ := kS.cons
    have c0 := hat.1
    obtain ⟨hbg, curg, kg⟩ := kB g rfl
    have hx := hnu x (by simp)
    have hKg : K ≠ g := Apart_type kK kg (by decide)
    obtain ⟨m, hmm⟩ : ∃ m, m = (x :: r).length := ⟨_, rfl⟩
    have hmo : ¬ ((m : Int) ≤ (most : Int)) := by rw [hmm]; omega
    have hm0 : (0 : Int) < (m : Int) := by rw [hmm]; simp
    have fz := kK.free 0
    have k1 : Hid (Keep base K (wr.setCell ⟨K, 0, none⟩ (.int .i64 x.n)) x.n (x :: r) o') := by
     have hblk : ∀ j, j ≠ K → (wr.setCell ⟨K, 0, none⟩ (.int .i64 x.n)).heap[j]? = wr.heap[j]? := fun j hj => Below.heap_setCell _ _ _ _ (by exact hj)
     refine ⟨some ⟨g, off, none⟩, c, ov, kK.set 0 _, ?_, kc, fun g' hg' => ?_, owns_same kO fun j hj => hblk j (fun e => ?_), kA⟩
     ·obtain ⟨hl, ⟨h0, _⟩ | ⟨b, of2, c3, hv, hb, hc⟩⟩ := kS
      ·simp at h0
      ·cases hv
       exact ⟨hl, .inr ⟨g, off, c, rfl, by simp; exact hb, fun j u hj => (World.cell?_of_block (hblk g (Ne.symm hKg))).trans (hc j u hj)⟩⟩
     ·simp only [Value.ownBlock, Option.some.injEq] at hg'; subst hg'
      exact ⟨hbg, curg, (hblk g (Ne.symm hKg)).trans kg⟩
     ·obtain ⟨_, cu, h3⟩ := owns_blk kO hj
      exact Apart_type kK h3 (by decide) e.symm
    have hcall := letOut_any base K x.n (x :: r) o' _ k1.out hbK hnu (by omega) hle
    have hfacts := letF_facts (x :: r) x.n o' hnu (by omega)
    have hsh : (letF x.n (x :: r) o').2.1.length ≤ r.length := by rw [letF_first]; exact letF_len _ _ _
    obtain ⟨Q, hQ⟩ : ∃ Q, Q = letF x.n (x :: r) o' := ⟨_, rfl⟩
    have HG : Hid (∀ f, gk = f + 1 → giveF most f Q.1 Q.2.1 Q.2.2 = R) := fun f hf => by
     rw [← HL.out, hf, hQ]
     simp only [List.length_cons] at hm
     simp only [giveF, if_neg hm]
    rw [← hQ] at hcall hfacts hsh
    rw [← hmm] at d1
    have HF : Hid _ := hfacts
    have HQ : Hid (Below base w (wr.setCell ⟨K, 0, none⟩ (.int .i64 x.n))) := HB.out.setCell (by exact hbK) _
    clear kK kS kc kB kO kA hk hR hmm k1 kg hat hfacts hQ HL HB HK
    go_wp2_with (go_at_call 164; refine hcall.mono ?_; rintro e w1 ⟨rfl, hk1, hb1⟩)
    have HK1 : Hid _ := hk1
    clear hk1
    go_roundg (gk - 1)
    case measure => simp at hgg; omega
    case rel =>
     obtain ⟨f1, f2, f3⟩ := HF.out
     exact ⟨_, _, _, HK1, HG.out (gk - 1) (by simp at hgg; omega), f1, f2, by omega, HQ.out.trans hb1, by simp at hgg; omega⟩
set_option maxHeartbeats 1000000 in
theorem keep_any (next : Int) (v : Value) (l : List Sk) (w : World) (hv : Sls w v l) (hlen : l.length ≤ 1000) (hshort : ∀ x ∈ l, x.p.t.size ≤ 8) :
  Calls Tryz.prog 142 #[.agg #[.int .i64 next, v]] w fun e w' => ∃ u, e = .returned (.agg #[.int .i64 next, u, .slice none 0 0]) ∧ w'.ownsRow w.heap.size 106 7 u l.length (skCells l) ∧ Below w.heap.size w w' := by
 obtain ⟨a, c, rfl⟩ := hv.len
 have hcp := copyAll_any (.slice a l.length c) l ((w.alloc (.cells #[.int .i64 next, .slice a l.length c] 24)).alloc (.cells #[.int .i64 0, .slice none 0 0, .slice none 0 0] 194)) ((hv.alloc _).alloc _) hlen hshort
 obtain ⟨n, hn⟩ : ∃ n, n = l.length := ⟨_, rfl⟩
 rw [← hn] at hcp ⊢
 clear hv hn
 go_enter Tryz.func142, Tryz.ntmps142
 go_wp2_with fail
 refine hcp.mono ?_
 rintro e w1 ⟨u, rfl, ho, hb⟩
 have k0 := ((Blk.new w #[.int .i64 next, .slice a n c] 24).alloc (.cells #[.int .i64 0, .slice none 0 0, .slice none 0 0] 194)).below hb (by simp; omega)
 have k1 := (Blk.new (w.alloc (.cells #[.int .i64 next, .slice a n c] 24)) #[.int .i64 0, .slice none 0 0, .slice none 0 0] 194).below hb (by simp)
 simp only [World.size_alloc] at k1
 have f0 := k0.free
 have f1 := k1.free
 obtain ⟨c0, c1⟩ := k0.two
 obtain ⟨d0, d1, d2⟩ := k1.three
 obtain ⟨a', c', hu⟩ := Sl.len (Sl.of_owns ho)
 have hbe : Below w.heap.size w w1 := (((Below.refl _ w).alloc (Nat.le_refl _) _).alloc (by simp) _).trans (hb.mono (by simp; omega))
 have HF : Hid (∀ w2 : World, Hid (∀ j, j ≠ w.heap.size → j ≠ w.heap.size + 1 → w2.heap[j]? = w1.heap[j]?) → w2.ownsRow w.heap.size 106 7 u n (skCells l)) := fun w2 h2 =>
  owns_same (owns_base ho (by simp; omega)) fun j hj => by
   have := (ho.lt j hj).1
   simp only [World.size_alloc] at this
   exact h2.out j (by omega) (by omega)
 have HB : Hid (Below w.heap.size w w1) := hbe
 clear hb k0 k1 ho hbe hcp
 subst hu
 go_wp2
 exact bodyPost_ret (v := .agg #[.int .i64 next, .slice a' n c', .slice none 0 0]) (by simp [results, Tryz.results142, go_sem, d0, d1, d2]) rfl ⟨.slice a' n c', rfl, HF.out _ (show ∀ j, _ from fun j h1 h2 => by
  rw [Below.heap_setCell _ _ _ _ (by exact h2), Below.heap_setCell _ _ _ _ (by exact h2), Below.heap_setCell _ _ _ _ (by exact h2), Below.heap_setCell _ _ _ _ (by exact h1)]), by
  have h := HB.out
  exact (((h.setCell (by simp) _).setCell (by simp) _).setCell (by simp) _).setCell (by simp) _⟩
theorem Keep.of_owns {base K : Nat} {w : World} {next : Int} {hv : Value} {h : List Sk} (hK : Blk w K #[.int .i64 next, hv, .slice none 0 0] 194) (hown : w.ownsRow base 106 7 hv h.length (skCells h)) : Keep base K w next h [] := by
 have hsl := Sls.of_owns hown
 obtain ⟨a, c, hv'⟩ := hsl.len
 subst hv'
 refine ⟨a, c, .slice none 0 0, hK, hsl, ?_, fun g hg => owns_blk hown hg, World.ownsRow_nil _ _ _ _, Apart.nil _⟩
 obtain ⟨_, ⟨h1, h2⟩ | ⟨g, cap, cur, h1, _, _, h2, _⟩⟩ := hown
 ·omega
 ·injection h1 with _ _ h3; omega
set_option maxHeartbeats 400000 in
theorem risesLit_fits (next : Int) (v : Value) (l : List Sk) (B : Nat) (w : World) (hB : Blk w B #[.int .i64 next, v] 24) (hv : Sls w v l) (hlen : l.length ≤ 9223372036854775807) :
  Fits 131 #[.pointer (some ⟨B, 0, none⟩)] (qB next l) l.length w := fun W k hk hb => by
 have hBW := hB.below hb hB.lt
 obtain ⟨c0, c1⟩ := hBW.two
 have hcall := rises_any next v l k W (hv.below hb) hk hlen
 obtain ⟨q, hq⟩ : ∃ q, q = qB next l k := ⟨_, rfl⟩
 rw [← hq] at hcall ⊢
 obtain ⟨a, c, rfl⟩ := hv.len
 clear hq hBW hB hv
 show Calls Tryz.prog 131 #[.int .i64 k, .pointer (some ⟨B, 0, none⟩)] W _
 go_enter Tryz.func131, Tryz.ntmps131
 go_wp2_with (go_at_call 132; refine hcall.mono ?_; rintro e w1 ⟨rfl, hbw⟩)
 go_ret
 exact ⟨rfl, hbw⟩
set_option maxHeartbeats 2000000 in
theorem bufCheck_any (next : Int) (v : Value) (l : List Sk) (w : World) (hv : Sls w v l) (hlen : l.length ≤ 9223372036854775807) :
  Calls Tryz.prog 101 #[.agg #[.int .i64 next, v]] w fun e w' => e = .returned (.int .i64 (pchk next l)) ∧ Below w.heap.size w w' := by
 obtain ⟨a, c, hva⟩ := hv.len
 obtain ⟨n, hn⟩ : ∃ n, n = l.length := ⟨_, rfl⟩
 obtain ⟨r, hr⟩ : ∃ r, r = bchk next l := ⟨_, rfl⟩
 rw [← hn] at hva
 unfold pchk
 rw [← hr]
 have HR : Hid (r = bchk next l) := hr
 have HN : Hid (n = l.length) := hn
 have HV : Hid (Sls w v l) := hv
 have hln : n ≤ 9223372036854775807 := by omega
 clear hr hv hn hlen
 subst hva
 cases hb : nextBad next
 ·have hnx := nextBad_false.1 hb
  have h0 : next = 0 ∨ ¬ next = 0 ∧ 65536 ≤ next ∧ next ≤ 1000000001 := by omega
  by_cases h4 : 4 < n
  ·have hr : r = 2 := by rw [HR.out]; unfold bchk; rw [hb, if_neg (by simp), if_pos (by rw [← HN.out]; exact h4)]
   rw [hr]
   clear hnx hb hr
   rcases h0 with rfl | ⟨h1, h2, h3⟩
   all_goals
    go_enter Tryz.func101, Tryz.ntmps101
    go_wp2
    go_ret
    exact ⟨rfl, by go_grown⟩
  ·obtain ⟨w0, hw0⟩ : ∃ w0 : World, w0 = w.alloc (.cells #[.int .i64 next, .slice a n c] 24) := ⟨_, rfl⟩
   have hcA : Calls Tryz.prog 130 #[.slice a n c, .func (.func 131) #[] #[.pointer (some ⟨w.heap.size, 0, none⟩)]] w0 fun e w' => e = .returned (.int .i64 (bgo next next l)) ∧ Below w0.heap.size w0 w' := by
    rw [← fit_all, hw0]
    exact checkAll_any 131 #[.pointer (some ⟨w.heap.size, 0, none⟩)] (qB next l) (enters_of Tryz.func131 (by kernel_rfl) rfl) (.slice a n c) l _ (HV.out.alloc _) (by rw [← HN.out]; exact hln) (risesLit_fits next (.slice a n c) l w.heap.size _ (Blk.new w _ _) (HV.out.alloc _) (by rw [← HN.out]; exact hln))
   have hK0 : Blk w0 w.heap.size #[.int .i64 next, .slice a n c] 24 := by rw [hw0]; exact Blk.new w _ _
   have hB0 : Below w.heap.size w w0 := by rw [hw0]; exact (Below.refl _ w).alloc (Nat.le_refl _) _
   have hs0 : w.heap.size ≤ w0.heap.size := hB0.size
   obtain ⟨ca, hca⟩ : ∃ ca, ca = bgo next next l := ⟨_, rfl⟩
   rw [← hca] at hcA
   have hr : Hid (r = if ca = 0 then (if next = 0 ∧ 0 < n then 4 else 0) else ca) := by
    show r = _
    rw [HR.out, hca]; unfold bchk; rw [hb, if_neg (by simp), if_neg (by rw [← HN.out]; exact h4), HN.out]
   have HA : Hid (Calls Tryz.prog 130 #[.slice a n c, .func (.func 131) #[] #[.pointer (some ⟨w.heap.size, 0, none⟩)]] w0 fun e w' => e = .returned (.int .i64 ca) ∧ Below w0.heap.size w0 w') := hcA
   have HW0 : Hid (w0 = w.alloc (.cells #[.int .i64 next, .slice a n c] 24)) := hw0
   have K0 : Hid (Blk w0 w.heap.size #[.int .i64 next, .slice a n c] 24) := hK0
   have B0 : Hid (Below w.heap.size w w0) := hB0
   clear hca hcA hw0 hK0 hB0 hnx hb HR
   by_cases hc0 : ca = 0
   ·subst hc0
    rcases h0 with rfl | ⟨h1, h2, h3⟩
    all_goals
     go_enter Tryz.func101, Tryz.ntmps101
     go_wp2_with fail
     rw [← HW0.out]
     refine HA.out.mono ?_
     rintro e w1 ⟨rfl, hb1⟩
     have k1 := Blk.below K0.out hb1 (Blk.lt K0.out)
     obtain ⟨d0, d1⟩ := k1.two
     have B1 : Hid (Below w.heap.size w w1) := B0.out.trans (hb1.mono hs0)
     clear hb1 k1 HA
     by_cases hn0 : n = 0
     ·subst hn0
      go_wp2
      go_ret
      exact ⟨by rw [hr.out]; simp [Array.getD], B1.out⟩
     ·have hn1 : (0 : Int) < (n : Int) := by omega
      go_wp2
      go_ret
      refine ⟨?_, B1.out⟩
      rw [hr.out]
      first
       | (rw [if_pos trivial, if_pos ⟨trivial, by omega⟩]; rfl)
       | (rw [if_pos trivial, if_neg (fun h => h1 h.1)]; rfl)
       | (rw [if_pos rfl, if_pos ⟨rfl, by omega⟩]; rfl)
       | (rw [if_pos rfl, if_neg (fun h => h1 h.1)]; rfl)
   ·have hr' : r = ca := by rw [hr.out, if_neg hc0]
    rw [hr']
    clear hr hr'
    rcases h0 with rfl | ⟨h1, h2, h3⟩
    all_goals
     go_enter Tryz.func101, Tryz.ntmps101
     go_wp2_with fail
     rw [← HW0.out]
     refine HA.out.mono ?_
     rintro e w1 ⟨rfl, hb1⟩
     have B1 : Hid (Below w.heap.size w w1) := B0.out.trans (hb1.mono hs0)
     clear hb1 HA
     go_wp2
     go_ret
     exact ⟨rfl, B1.out⟩
 ·have hr : r = 3 := by rw [HR.out]; unfold bchk; rw [hb, if_pos rfl]
  rw [hr]
  have h0 : ¬ next = 0 := by rintro rfl; simp [nextBad] at hb
  have h1 : next < 65536 ∨ 65536 ≤ next ∧ 1000000001 < next := by simp [nextBad] at hb; omega
  clear hb hr
  rcases h1 with h1 | ⟨h1, h2⟩
  all_goals
   go_enter Tryz.func101, Tryz.ntmps101
   go_wp2
   go_ret
   exact ⟨rfl, by go_grown⟩
end Go.Proofs.YtnpaejknoipicagGreat
namespace Go.Proofs.YtnpaejknoipicagGreat
open Go.RowKit Go.Sort
def putF (next : Int) (h : List Sk) (x : Sk) : Int × List Sk × List Sk :=
 if x.n < (if next = 0 then x.n else next) then ((if next = 0 then x.n else next), h, [])
 else if (h.any fun y => y.n == x.n) then ((if next = 0 then x.n else next), h, [])
 else relF 4 (if next = 0 then x.n else next) (insF h x) []
theorem nums_ins {h : List Sk} {x : Sk} (hn : Nums h) (hx : 65536 ≤ x.n ∧ x.n ≤ 1000000000) : Nums (insF h x) := fun y hy => by
 simp only [insF, putAt, List.mem_append, List.mem_cons] at hy
 rcases hy with hy | rfl | hy
 ·exact hn y (List.mem_of_mem_take hy)
 ·exact hx
 ·exact hn y (List.mem_of_mem_drop hy)
set_option maxHeartbeats 2000000 in
set_option maxRecDepth 100000 in
theorem put_any (base K : Nat) (next : Int) (hv : Value) (h : List Sk) (x : Sk) (w : World) (hK : Blk w K #[.int .i64 next, hv, .slice none 0 0] 194) (hown : w.ownsRow base 106 7 hv h.length (skCells h)) (hbase : base ≤ w.heap.size) (hbK : base ≤ K)
  (hnums : Nums h) (hx : 65536 ≤ x.n ∧ x.n ≤ 1000000000) (hn0 : next = 0 ∨ 65536 ≤ next ∧ next ≤ 1000000001) (hlen : h.length ≤ 50) :
  Calls Tryz.prog 143 #[.pointer (some ⟨K, 0, none⟩), x.val] w fun e w' => e = .returned (.tuple #[]) ∧ Keep base K w' (putF next h x).1 (putF next h x).2.1 (putF next h x).2.2 ∧ Below base w w' := by
 obtain ⟨c0, c1, c2⟩ := hK.three
 have hKw := hK.lt
 have hfr := hK.free 0
 have HK : Hid (Blk w K #[.int .i64 next, hv, .slice none 0 0] 194) := hK
 have HO : Hid (w.ownsRow base 106 7 hv h.length (skCells h)) := hown
 obtain ⟨t, ht⟩ : ∃ t, t = h.any fun y => y.n == x.n := ⟨_, rfl⟩
 obtain ⟨R, hR⟩ : ∃ R, R = putF next h x := ⟨_, rfl⟩
 rw [← hR]
 have HR : Hid (R = putF next h x) := hR
 have HT : Hid (t = h.any fun y => y.n == x.n) := ht
 clear hK hown hR ht
 simp only [Sk.val]
 by_cases h0 : next = 0
 ·subst h0
  go_enter Tryz.func143, Tryz.ntmps143
  go_wp2
  obtain ⟨W, hW⟩ : ∃ W, W = (w.setCell ⟨K, 0, none⟩ (.int .i64 x.n)).alloc (.cells #[.int .i64 x.n, .int .i64 x.p.seq, .int .i64 x.p.time, .bool x.p.f, .bool x.p.e, .bool x.p.k, .string x.p.t] 106) := ⟨_, rfl⟩
  have kW : Blk W K #[.int .i64 x.n, hv, .slice none 0 0] 194 := by rw [hW]; exact (HK.out.set 0 _).alloc _
  have xW : Blk W w.heap.size x.cells 106 := by rw [hW]; exact by have := Blk.new (w.setCell ⟨K, 0, none⟩ (.int .i64 x.n)) x.cells 106; simp only [World.size_setCell] at this; exact this
  have oW : W.ownsRow base 106 7 hv h.length (skCells h) := by rw [hW]; exact (hold_own HO.out HK.out rfl).alloc _
  have bW : Below base w W := by rw [hW]; exact ((Below.refl base w).setCell (by exact hbK) _).alloc (by simp; omega) _
  rw [← hW]
  clear hW
  obtain ⟨d0, d1, d2⟩ := kW.three
  obtain ⟨e0, e1, e2, e3, e4, e5, e6⟩ := xW.seven
  have r0 := cell_regrown d0
  have s0 := cell_regrown e0
  have cH : ∀ d os, Calls Tryz.prog 162 #[.pointer (some ⟨K, 0, none⟩), .int .i64 x.n] (grow (redrawn W d) os) fun e w'' => e = .returned (.bool t) ∧ ∃ p : Regrown, w'' = grow (redrawn W p.d) p.os := fun d os =>
   Calls.regrown_of (by rw [HT.out]; exact holds_any K x.n hv (.slice none 0 0) h x.n _ (kW.below (below_regrown W d os) kW.lt) ((Sls.of_owns oW).below (below_regrown W d os)) (by omega))
  have KW : Hid (Blk W K #[.int .i64 x.n, hv, .slice none 0 0] 194) := kW
  have XW : Hid (Blk W w.heap.size x.cells 106) := xW
  have OW : Hid (W.ownsRow base 106 7 hv h.length (skCells h)) := oW
  have BW : Hid (Below base w W) := bW
  clear kW xW oW bW d0 d1 d2 e0 e1 e2 e3 e4 e5 e6 c0 c1 c2
  refine wp_region_quiet_below (by kernel_rfl) (by kernel_rfl) ?_
  repeat (quiet_step (exact cH _ _))
  refine wpQuiet_nil ?_
  intro _ hw'
  obtain ⟨⟨dq, osq⟩, hw''⟩ := hw'
  subst hw''
  have bR := below_regrown W dq osq
  obtain ⟨V, hV⟩ : ∃ V, V = grow (redrawn W dq) osq := ⟨_, rfl⟩
  rw [← hV] at bR
  have kV := KW.out.below bR KW.out.lt
  have xV := XW.out.below bR XW.out.lt
  have oV := owns_below OW.out bR (Nat.le_refl _)
  have bV : Below base w V := BW.out.trans (bR.mono (by have := BW.out.size; omega))
  rw [← hV]
  clear hV bR KW XW OW BW r0 s0 cH
  cases t
  ·obtain ⟨e0, e1, e2, e3, e4, e5, e6⟩ := xV.seven
   have hR2 : R = relF 4 x.n (insF h x) [] := by rw [HR.out]; unfold putF; rw [if_pos rfl]; rw [if_neg (by omega), if_neg (by rw [← HT.out]; decide)]
   have hgl := give_let 4 (insF h x).length (insF h x) (Nat.le_refl _) (letF x.n (insF h x) []).2.1.length x.n []
   have hil := insF_len h x
   have KV : Hid _ := kV
   have BV : Hid _ := bV
   have OV : Hid _ := oV
   clear kV xV oV bV
   go_wp2_with fail
   refine (hold_any base K x.n hv (.slice none 0 0) h x V KV.out OV.out (by omega) (by have := BV.out.size; omega) hbK).mono ?_
   rintro e w2 ⟨rfl, hv2, k2, o2, b2⟩
   have K2 : Hid (Keep base K w2 x.n (insF h x) []) := Keep.of_owns k2 (by rw [hil]; exact o2)
   clear k2 o2 e0 e1 e2 e3 e4 e5 e6
   go_wp2_with fail
   have f3 := letF_facts (insF h x) x.n [] (nums_ins hnums hx) (by omega)
   refine (letOut_any base K x.n (insF h x) [] w2 K2.out hbK (nums_ins hnums hx) (by omega) (by rw [hil]; simp; omega)).mono ?_
   rintro e w3 ⟨rfl, k3, b3⟩
   have K3 : Hid _ := k3
   clear k3
   go_wp2_with fail
   refine (giveUpTo_any base K 4 _ _ _ w3 K3.out hbK f3.1 f3.2.1 (by rw [f3.2.2, hil]; simp; omega)).mono ?_
   rintro e w4 ⟨rfl, k4, b4⟩
   rw [hgl (Nat.le_refl _)] at k4
   go_wp2
   go_end0
   rw [hR2]
   exact ⟨rfl, k4, ((BV.out.trans b2).trans b3).trans b4⟩
  ·have hR2 : R = (x.n, h, []) := by rw [HR.out]; unfold putF; rw [if_pos rfl]; rw [if_neg (by omega), if_pos (by rw [← HT.out])]
   have KV : Hid (Keep base K V x.n h []) := Keep.of_owns kV oV
   have BV : Hid _ := bV
   clear kV xV oV bV
   go_wp2
   refine bodyPost_ret (results_none rfl _ _ _) rfl ?_
   rw [hR2]
   exact ⟨rfl, KV.out, BV.out⟩
 ·have hne : (next == 0) = false := by simpa using h0
  by_cases hlt : x.n < next
  ·have hR2 : R = (next, h, []) := by rw [HR.out]; unfold putF; rw [if_neg h0, if_pos hlt]
   have hd : decide (x.n < next) = true := decide_eq_true hlt
   have HH : Hid (Keep base K w next h []) := Keep.of_owns HK.out HO.out
   go_enter Tryz.func143, Tryz.ntmps143
   go_wp2
   go_quiet (fail)
   go_wp2
   refine bodyPost_ret (results_none rfl _ _ _) rfl ?_
   rw [hR2]
   exact ⟨rfl, (Keep.of_owns (HK.out.alloc _) (HO.out.alloc _)).drewN nq, below_drewN ((Below.refl base w).alloc hbase _) nq⟩
  ·have hd : decide (x.n < next) = false := decide_eq_false hlt
   go_enter Tryz.func143, Tryz.ntmps143
   go_wp2
   obtain ⟨W, hW⟩ : ∃ W, W = w.alloc (.cells #[.int .i64 x.n, .int .i64 x.p.seq, .int .i64 x.p.time, .bool x.p.f, .bool x.p.e, .bool x.p.k, .string x.p.t] 106) := ⟨_, rfl⟩
   have kW : Blk W K #[.int .i64 next, hv, .slice none 0 0] 194 := by rw [hW]; exact HK.out.alloc _
   have xW : Blk W w.heap.size x.cells 106 := by rw [hW]; exact Blk.new w _ _
   have oW : W.ownsRow base 106 7 hv h.length (skCells h) := by rw [hW]; exact HO.out.alloc _
   have bW : Below base w W := by rw [hW]; exact (Below.refl base w).alloc hbase _
   rw [← hW]
   clear hW
   obtain ⟨d0, d1, d2⟩ := kW.three
   obtain ⟨e0, e1, e2, e3, e4, e5, e6⟩ := xW.seven
   have r0 := cell_regrown d0
   have s0 := cell_regrown e0
   have cH : ∀ d os, Calls Tryz.prog 162 #[.pointer (some ⟨K, 0, none⟩), .int .i64 x.n] (grow (redrawn W d) os) fun e w'' => e = .returned (.bool t) ∧ ∃ p : Regrown, w'' = grow (redrawn W p.d) p.os := fun d os =>
    Calls.regrown_of (by rw [HT.out]; exact holds_any K next hv (.slice none 0 0) h x.n _ (kW.below (below_regrown W d os) kW.lt) ((Sls.of_owns oW).below (below_regrown W d os)) (by omega))
   have KW : Hid (Blk W K #[.int .i64 next, hv, .slice none 0 0] 194) := kW
   have XW : Hid (Blk W w.heap.size x.cells 106) := xW
   have OW : Hid (W.ownsRow base 106 7 hv h.length (skCells h)) := oW
   have BW : Hid (Below base w W) := bW
   clear kW xW oW bW d0 d1 d2 e0 e1 e2 e3 e4 e5 e6 c0 c1 c2
   refine wp_region_quiet_below (by kernel_rfl) (by kernel_rfl) ?_
   repeat (quiet_step (exact cH _ _))
   refine wpQuiet_nil ?_
   intro _ hw'
   obtain ⟨⟨dq, osq⟩, hw''⟩ := hw'
   subst hw''
   have bR := below_regrown W dq osq
   obtain ⟨V, hV⟩ : ∃ V, V = grow (redrawn W dq) osq := ⟨_, rfl⟩
   rw [← hV] at bR
   have kV := KW.out.below bR KW.out.lt
   have xV := XW.out.below bR XW.out.lt
   have oV := owns_below OW.out bR (Nat.le_refl _)
   have bV : Below base w V := BW.out.trans (bR.mono (by have := BW.out.size; omega))
   rw [← hV]
   clear hV bR KW XW OW BW r0 s0 cH
   cases t
   ·obtain ⟨e0, e1, e2, e3, e4, e5, e6⟩ := xV.seven
    have hR2 : R = relF 4 next (insF h x) [] := by rw [HR.out]; unfold putF; rw [if_neg h0]; rw [if_neg (by omega), if_neg (by rw [← HT.out]; decide)]
    have hgl := give_let 4 (insF h x).length (insF h x) (Nat.le_refl _) (letF next (insF h x) []).2.1.length next []
    have hil := insF_len h x
    have KV : Hid _ := kV
    have BV : Hid _ := bV
    have OV : Hid _ := oV
    clear kV xV oV bV
    go_wp2_with fail
    refine (hold_any base K next hv (.slice none 0 0) h x V KV.out OV.out (by omega) (by have := BV.out.size; omega) hbK).mono ?_
    rintro e w2 ⟨rfl, hv2, k2, o2, b2⟩
    have K2 : Hid (Keep base K w2 next (insF h x) []) := Keep.of_owns k2 (by rw [hil]; exact o2)
    clear k2 o2 e0 e1 e2 e3 e4 e5 e6
    go_wp2_with fail
    have f3 := letF_facts (insF h x) next [] (nums_ins hnums hx) (by omega)
    refine (letOut_any base K next (insF h x) [] w2 K2.out hbK (nums_ins hnums hx) (by omega) (by rw [hil]; simp; omega)).mono ?_
    rintro e w3 ⟨rfl, k3, b3⟩
    have K3 : Hid _ := k3
    clear k3
    go_wp2_with fail
    refine (giveUpTo_any base K 4 _ _ _ w3 K3.out hbK f3.1 f3.2.1 (by rw [f3.2.2, hil]; simp; omega)).mono ?_
    rintro e w4 ⟨rfl, k4, b4⟩
    rw [hgl (Nat.le_refl _)] at k4
    go_wp2
    go_end0
    rw [hR2]
    exact ⟨rfl, k4, ((BV.out.trans b2).trans b3).trans b4⟩
   ·have hR2 : R = (next, h, []) := by rw [HR.out]; unfold putF; rw [if_neg h0]; rw [if_neg (by omega), if_pos (by rw [← HT.out])]
    have KV : Hid (Keep base K V next h []) := Keep.of_owns kV oV
    have BV : Hid _ := bV
    clear kV xV oV bV
    go_wp2
    refine bodyPost_ret (results_none rfl _ _ _) rfl ?_
    rw [hR2]
    exact ⟨rfl, KV.out, BV.out⟩
end Go.Proofs.YtnpaejknoipicagGreat
namespace Go.Proofs.YtnpaejknoipicagGreat
open Go.RowKit
def putE (next : Int) (l : List Sk) (x : Sk) : Int := if pchk next l = 0 then x.chk else pchk next l
def putR (next : Int) (l : List Sk) (x : Sk) : Int × List Sk × List Sk := if putE next l x = 0 then putF next l x else (0, [], [])
theorem Keep.fresh {base K : Nat} {w : World} {next : Int} {h o : List Sk} (hk : Keep base K w next h o) :
  ∃ hv ov, w.cell? ⟨K, 0, none⟩ = some (.int .i64 next) ∧ w.cell? ⟨K, 1, none⟩ = some hv ∧ w.cell? ⟨K, 2, none⟩ = some ov ∧ Fresh base w hv h ∧ Fresh base w ov o ∧ (∃ a c, hv = .slice a h.length c) ∧ (∃ a c, ov = .slice a o.length c) := by
 obtain ⟨a, c, ov, kK, kS, kc, kB, kO, kA⟩ := hk
 obtain ⟨d0, d1, d2⟩ := kK.three
 exact ⟨_, ov, d0, d1, d2, ⟨kS, fun g hg => by obtain ⟨h1, cur, h2⟩ := kB g hg; exact ⟨h1, h2.lt⟩⟩, ⟨Sls.of_owns kO, kO.lt⟩, ⟨a, c, rfl⟩, (Sls.of_owns kO).len⟩
set_option maxHeartbeats 2000000 in
theorem bufPut_no (next : Int) (v : Value) (l : List Sk) (x : Sk) (w : World) (hv : Sls w v l) (hlen : l.length ≤ 9223372036854775807) (hE : ¬ putE next l x = 0) :
  Calls Tryz.prog 107 #[.agg #[.int .i64 next, v], x.val] w fun e w' => e = .returned (.tuple #[.agg #[.int .i64 0, .slice none 0 0], .slice none 0 0, .int .i64 (putE next l x)]) ∧ Below w.heap.size w w' := by
 obtain ⟨a, c, hva⟩ := hv.len
 obtain ⟨n, hn⟩ : ∃ n, n = l.length := ⟨_, rfl⟩
 rw [← hn] at hva
 obtain ⟨E, hEE⟩ : ∃ E, E = putE next l x := ⟨_, rfl⟩
 rw [← hEE] at hE ⊢
 have HE : Hid (E = putE next l x) := hEE
 have HV : Hid (Sls w v l) := hv
 have HC : Hid (∀ w' : World, Sls w' v l → Calls Tryz.prog 101 #[.agg #[.int .i64 next, v]] w' fun e w'' => e = .returned (.int .i64 (pchk next l)) ∧ Below w'.heap.size w' w'') := fun w' hs => bufCheck_any next v l w' hs hlen
 obtain ⟨pc, hpc⟩ : ∃ pc, pc = pchk next l := ⟨_, rfl⟩
 rw [← hpc] at HC
 have HP : Hid (pc = pchk next l) := hpc
 clear hv hn hEE hpc
 subst hva
 have hsc := slotCheck_any x
 obtain ⟨xc, hxc⟩ : ∃ xc, xc = x.chk := ⟨_, rfl⟩
 rw [← hxc] at hsc
 have HX : Hid (xc = x.chk) := hxc
 have HS : Hid _ := hsc
 clear hsc hxc
 by_cases hp : pc = 0
 ·have hEx : E = xc := by rw [HE.out, HX.out]; unfold putE; rw [if_pos (by rw [← HP.out]; exact hp)]
  subst hp
  subst hEx
  obtain ⟨xn, seq, time, xf, xe, xk, xt⟩ := x
  simp only [Sk.val] at HS ⊢
  go_enter Tryz.func107, Tryz.ntmps107
  go_wp2_with fail
  refine (HC.out _ (((HV.out.alloc _).alloc _).alloc _)).mono ?_
  rintro e w1 ⟨rfl, hb1⟩
  obtain ⟨kb, kx, kr, bb, hs1⟩ := blocks3 hb1
  have KR : Hid _ := kr
  have B1 : Hid _ := bb
  obtain ⟨e0, e1, e2, e3, e4, e5, e6⟩ := kx.seven
  clear hb1 kb kx kr bb
  go_wp2_with fail
  refine (HS.out _).mono ?_
  rintro e w2 ⟨rfl, hb2⟩
  have kr := Blk.below KR.out hb2 (Blk.lt KR.out)
  have BB : Hid (Below w.heap.size w w2) := B1.out.trans (hb2.mono B1.out.size)
  obtain ⟨r0, r1⟩ := kr.two
  have rf := kr.free
  clear hb2 kr KR B1 e0 e1 e2 e3 e4 e5 e6
  go_wp2
  exact bodyPost_ret (v := .tuple #[.agg #[.int .i64 0, .slice none 0 0], .slice none 0 0, .int .i64 E]) (by simp [results, Tryz.results107, go_sem, r0, r1]) rfl ⟨rfl, by
   have h := BB.out
   exact (h.setCell (by simp; omega) _).setCell (by simp; omega) _⟩
 ·have hEp : E = pc := by rw [HE.out, HP.out]; unfold putE; rw [if_neg (by rw [← HP.out]; exact hp)]
  subst hEp
  obtain ⟨xn, seq, time, xf, xe, xk, xt⟩ := x
  simp only [Sk.val]
  go_enter Tryz.func107, Tryz.ntmps107
  go_wp2_with fail
  refine (HC.out _ (((HV.out.alloc _).alloc _).alloc _)).mono ?_
  rintro e w1 ⟨rfl, hb1⟩
  obtain ⟨kb, kx, kr, bb, hs1⟩ := blocks3 hb1
  obtain ⟨r0, r1⟩ := kr.two
  have rf := kr.free
  have BB : Hid _ := bb
  clear hb1 kb kx kr bb
  go_wp2
  exact bodyPost_ret (v := .tuple #[.agg #[.int .i64 0, .slice none 0 0], .slice none 0 0, .int .i64 E]) (by simp [results, Tryz.results107, go_sem, r0, r1]) rfl ⟨rfl, by
   have h := BB.out
   exact (h.setCell (by simp; omega) _).setCell (by simp; omega) _⟩
set_option maxHeartbeats 2000000 in
set_option maxRecDepth 100000 in
theorem bufPut_ok (next : Int) (v : Value) (l : List Sk) (x : Sk) (w : World) (hv : Sls w v l) (hR : Right next l) (hx : x.chk = 0) :
  Calls Tryz.prog 107 #[.agg #[.int .i64 next, v], x.val] w fun e w' => ∃ hv' ov', e = .returned (.tuple #[.agg #[.int .i64 (putF next l x).1, hv'], ov', .int .i64 0]) ∧
   Fresh w.heap.size w' hv' (putF next l x).2.1 ∧ Fresh w.heap.size w' ov' (putF next l x).2.2 ∧ Below w.heap.size w w' := by
 obtain ⟨a, c, hva⟩ := hv.len
 have hl4 : l.length ≤ 4 := hR.2.1
 have hpc : pchk next l = 0 := (pchk_right next l).2 hR
 have HV : Hid (Sls w v l) := hv
 have HC : Hid (∀ w' : World, Sls w' v l → Calls Tryz.prog 101 #[.agg #[.int .i64 next, v]] w' fun e w'' => e = .returned (.int .i64 0) ∧ Below w'.heap.size w' w'') := fun w' hs => by rw [← hpc]; exact bufCheck_any next v l w' hs (by omega)
 have HS : Hid (∀ w' : World, Calls Tryz.prog 83 #[x.val] w' fun e w'' => e = .returned (.int .i64 0) ∧ Below w'.heap.size w' w'') := fun w' => by rw [← hx]; exact slotCheck_any x w'
 have HKp : Hid (∀ w' : World, Sls w' v l → Calls Tryz.prog 142 #[.agg #[.int .i64 next, v]] w' fun e w'' => ∃ u, e = .returned (.agg #[.int .i64 next, u, .slice none 0 0]) ∧ w''.ownsRow w'.heap.size 106 7 u l.length (skCells l) ∧ Below w'.heap.size w' w'') := fun w' hs => keep_any next v l w' hs (by omega) (fun y hy => Sk.chk_short (hR.2.2.1 y hy))
 have HCo : Hid (∀ w' : World, Calls Tryz.prog 85 #[x.val] w' fun e w'' => e = .returned x.val ∧ Below w'.heap.size w' w'') := fun w' => slotCopy_any x w' (Sk.chk_short hx)
 have HPu : Hid (∀ (K base : Nat) (hv' : Value) (w' : World), Blk w' K #[.int .i64 next, hv', .slice none 0 0] 194 → w'.ownsRow base 106 7 hv' l.length (skCells l) → base ≤ w'.heap.size → base ≤ K →
   Calls Tryz.prog 143 #[.pointer (some ⟨K, 0, none⟩), x.val] w' fun e w'' => e = .returned (.tuple #[]) ∧ Keep base K w'' (putF next l x).1 (putF next l x).2.1 (putF next l x).2.2 ∧ Below base w' w'') := fun K base hv' w' h1 h2 h3 h4 =>
  put_any base K next hv' l x w' h1 h2 h3 h4 (fun y hy => by have := Sk.chk_zero (hR.2.2.1 y hy); omega) (by have := Sk.chk_zero hx; omega) (by rcases hR.1 with ⟨h, _⟩ | h <;> omega) (by omega)
 obtain ⟨n, hn⟩ : ∃ n, n = l.length := ⟨_, rfl⟩
 rw [← hn] at hva
 rw [← hn] at HKp HPu
 obtain ⟨R, hRR⟩ : ∃ R, R = putF next l x := ⟨_, rfl⟩
 rw [← hRR] at HPu ⊢
 clear hv hn hpc hR hRR hx hl4
 subst hva
 obtain ⟨xn, seq, time, xf, xe, xk, xt⟩ := x
 simp only [Sk.val] at HS HCo HPu ⊢
 go_enter Tryz.func107, Tryz.ntmps107
 go_wp2_with fail
 refine (HC.out _ (((HV.out.alloc _).alloc _).alloc _)).mono ?_
 rintro e w1 ⟨rfl, hb1⟩
 obtain ⟨kb, kx, kr, bb, hs1⟩ := blocks3 hb1
 have v1 : Hid (Sls w1 (.slice a n c) l) := (((HV.out.alloc _).alloc _).alloc _).below hb1
 have KB1 : Hid _ := kb
 have KX1 : Hid _ := kx
 have KR1 : Hid _ := kr
 have B1 : Hid _ := bb
 obtain ⟨e0, e1, e2, e3, e4, e5, e6⟩ := kx.seven
 clear hb1 kb kx kr bb HC HV
 go_wp2_with fail
 refine (HS.out _).mono ?_
 rintro e w2 ⟨rfl, hb2⟩
 have KB2 : Hid _ := Blk.below KB1.out hb2 (Blk.lt KB1.out)
 have KX2 : Hid _ := Blk.below KX1.out hb2 (Blk.lt KX1.out)
 have KR2 : Hid _ := Blk.below KR1.out hb2 (Blk.lt KR1.out)
 have v2 : Hid (Sls w2 (.slice a n c) l) := v1.out.below hb2
 have B2 : Hid (Below w.heap.size w w2) := B1.out.trans (hb2.mono B1.out.size)
 obtain ⟨f0, f1⟩ := Blk.two KB2.out
 clear hb2 KB1 KX1 KR1 B1 v1 e0 e1 e2 e3 e4 e5 e6 HS
 go_wp2_with fail
 refine (HKp.out _ v2.out).mono ?_
 rintro e w3 ⟨u, rfl, ho3, hb3⟩
 obtain ⟨a', c', hu⟩ := Sl.len (Sl.of_owns ho3)
 have KX3 : Hid _ := Blk.below KX2.out hb3 (Blk.lt KX2.out)
 have KR3 : Hid _ := Blk.below KR2.out hb3 (Blk.lt KR2.out)
 have B3 : Hid (Below w.heap.size w w3) := B2.out.trans (hb3.mono B2.out.size)
 obtain ⟨e0, e1, e2, e3, e4, e5, e6⟩ := Blk.seven KX3.out
 have hle3 := hb3.size
 have hr2 := Blk.lt KR2.out
 subst hu
 have HO3 : Hid (w3.ownsRow w2.heap.size 106 7 (.slice a' n c') n (skCells l)) := ho3
 clear hb3 ho3 f0 f1 v2 KB2 KX2 HKp
 have lt3 : w.heap.size + 1 < w3.heap.size := by omega
 go_wp2_with fail
 refine (HCo.out _).mono ?_
 rintro e w4 ⟨rfl, hb4⟩
 have k4 := Blk.below (Blk.new w3 #[.int .i64 next, .slice a' n c', .slice none 0 0] 194) hb4 (by simp)
 have KR4 : Hid _ := Blk.below (Blk.alloc KR3.out (.cells #[.int .i64 next, .slice a' n c', .slice none 0 0] 194)) hb4 (by have := Blk.lt KR3.out; simp; omega)
 have ho4 := owns_below (HO3.out.alloc (.cells #[.int .i64 next, .slice a' n c', .slice none 0 0] 194)) hb4 (Nat.le_refl _)
 have hs4 := hb4.size
 simp only [World.size_alloc] at hs4
 have B4 : Hid (Below w.heap.size w w4) := (B3.out.alloc B3.out.size _).trans (hb4.mono (by have := B3.out.size; simp; omega))
 clear hb4 KX3 KR3 B3 HO3 e0 e1 e2 e3 e4 e5 e6 HCo
 go_wp2_with fail
 refine (HPu.out w3.heap.size w2.heap.size _ w4 k4 ho4 (by omega) (by omega)).mono ?_
 rintro e w5 ⟨rfl, hk5, hb5⟩
 have kr5 := Blk.below KR4.out hb5 hr2
 obtain ⟨hv', ov', g0, g1, g2, F1, F2, ⟨ah, ch, eh⟩, ⟨ao, co, eo⟩⟩ := hk5.fresh
 obtain ⟨r0, r1⟩ := Blk.two kr5
 have rf := Blk.free kr5
 have hr5 := Blk.lt kr5
 have B5 : Hid (Below w.heap.size w w5) := B4.out.trans (hb5.mono (by have := B2.out.size; omega))
 have hw2 : w.heap.size ≤ w2.heap.size := B2.out.size
 subst eh
 subst eo
 have G1 : Hid (Fresh w2.heap.size w5 (.slice ah R.2.1.length ch) R.2.1) := F1
 have G2 : Hid (Fresh w2.heap.size w5 (.slice ao R.2.2.length co) R.2.2) := F2
 clear hk5 hb5 kr5 k4 ho4 KR4 B4 F1 F2 HPu
 go_wp2_with fail
 have hne5 : ¬ w3.heap.size = w.heap.size + 1 + 1 := by omega
 go_region
 all_goals
  go_wp2
  refine bodyPost_ret (v := .tuple #[.agg #[.int .i64 R.1, .slice ah R.2.1.length ch], .slice ao R.2.2.length co, .int .i64 0]) (by simp [results, Tryz.results107, go_sem, r0, r1]) rfl ⟨_, _, rfl, ?_, ?_, ?_⟩
  ·exact ((G1.out.set (by exact hr2) _).set (by exact hr2) _).base hw2
  ·exact ((G2.out.set (by exact hr2) _).set (by exact hr2) _).base hw2
  ·exact ((B5.out.setCell (by simp; omega) _).setCell (by simp; omega) _).drew
end Go.Proofs.YtnpaejknoipicagGreat
namespace Go.Proofs.YtnpaejknoipicagGreat
theorem upB_mono {a b : Int} {l : List Sk} (h : upB b l = true) (hab : a ≤ b) : upB a l = true := by
 cases l with
 | nil => rfl
 | cons x r => simp only [upB, Bool.and_eq_true, decide_eq_true_eq] at h ⊢; exact ⟨by omega, h.2⟩
theorem upB_all {a : Int} {l : List Sk} (h : upB a l = true) : ∀ x ∈ l, a < x.n := by
 induction l generalizing a with
 | nil => simp
 | cons y r ih =>
  simp only [upB, Bool.and_eq_true, decide_eq_true_eq] at h
  intro x hx
  rcases List.mem_cons.1 hx with rfl | hx
  ·exact h.1
  ·have := ih h.2 x hx; omega
theorem upB_append {a : Int} {l m : List Sk} (h : upB a (l ++ m) = true) : upB a l = true ∧ ∀ x ∈ l, ∀ y ∈ m, x.n < y.n := by
 induction l generalizing a with
 | nil => exact ⟨rfl, by simp⟩
 | cons z r ih =>
  simp only [List.cons_append, upB, Bool.and_eq_true, decide_eq_true_eq] at h ⊢
  obtain ⟨h1, h2⟩ := h
  obtain ⟨i1, i2⟩ := ih h2
  refine ⟨⟨h1, i1⟩, fun x hx y hy => ?_⟩
  rcases List.mem_cons.1 hx with rfl | hx
  ·exact upB_all h2 y (by simp [hy])
  ·exact i2 x hx y hy
theorem rel_inv (most : Nat) : ∀ (h : List Sk) (next : Int) (o : List Sk), upB (next - 1) h = true →
  ∃ p, h = p ++ (relF most next h o).2.1 ∧ (relF most next h o).2.2 = o ++ p ∧ (∀ x ∈ p, x.n < (relF most next h o).1) ∧ next ≤ (relF most next h o).1 ∧ upB (relF most next h o).1 (relF most next h o).2.1 = true ∧
   (relF most next h o).2.1.length ≤ most ∧ ((relF most next h o).1 = next ∨ ∃ x ∈ p, (relF most next h o).1 = x.n + 1)
 | [], next, o, _ => ⟨[], by simp [relF, upB]⟩
 | x :: r, next, o, hu => by
  simp only [upB, Bool.and_eq_true, decide_eq_true_eq] at hu
  obtain ⟨h1, h2⟩ := hu
  by_cases hx : x.n = next
  ·have e : relF most next (x :: r) o = relF most (next + 1) r (o ++ [x]) := by simp [relF, hx]
   rw [e]
   obtain ⟨p, i1, i2, i3, i4, i5, i6, i7⟩ := rel_inv most r (next + 1) (o ++ [x]) (upB_mono h2 (by omega))
   refine ⟨x :: p, by rw [List.cons_append, ← i1], by rw [i2]; simp, fun y hy => ?_, by omega, i5, i6, .inr ?_⟩
   ·rcases List.mem_cons.1 hy with rfl | hy
    ·omega
    ·exact i3 y hy
   ·rcases i7 with i7 | ⟨y, hy, i7⟩
    ·exact ⟨x, by simp, by omega⟩
    ·exact ⟨y, by simp [hy], i7⟩
  ·by_cases hm : r.length + 1 ≤ most
   ·have e : relF most next (x :: r) o = (next, x :: r, o) := by simp [relF, hx, hm]
    rw [e]
    refine ⟨[], by simp, by simp, by simp, Int.le_refl _, ?_, by simpa using hm, .inl rfl⟩
    simp only [upB, Bool.and_eq_true, decide_eq_true_eq]
    exact ⟨by omega, h2⟩
   ·have e : relF most next (x :: r) o = relF most (x.n + 1) r (o ++ [x]) := by simp [relF, hx, hm]
    rw [e]
    obtain ⟨p, i1, i2, i3, i4, i5, i6, i7⟩ := rel_inv most r (x.n + 1) (o ++ [x]) (upB_mono h2 (by omega))
    refine ⟨x :: p, by rw [List.cons_append, ← i1], by rw [i2]; simp, fun y hy => ?_, by omega, i5, i6, .inr ?_⟩
    ·rcases List.mem_cons.1 hy with rfl | hy
     ·omega
     ·exact i3 y hy
    ·rcases i7 with i7 | ⟨y, hy, i7⟩
     ·exact ⟨x, by simp, by omega⟩
     ·exact ⟨y, by simp [hy], i7⟩
theorem place_cons (y : Sk) (r : List Sk) (x : Sk) : place (y :: r) x = if x.n < y.n then 0 else place r x + 1 := by
 unfold place
 rw [List.findIdx?_cons]
 by_cases h : x.n < y.n
 ·simp [h]
 ·simp only [h, decide_false]
  cases r.findIdx? fun y => decide (x.n < y.n) <;> simp
theorem insF_nil (x : Sk) : insF [] x = [x] := rfl
theorem insF_cons (y : Sk) (r : List Sk) (x : Sk) : insF (y :: r) x = if x.n < y.n then x :: y :: r else y :: insF r x := by
 unfold insF putAt
 rw [place_cons]
 by_cases h : x.n < y.n
 ·simp [h]
 ·simp [h]
theorem up_ins (x : Sk) : ∀ (h : List Sk) (a : Int), upB a h = true → a < x.n → (∀ y ∈ h, ¬ y.n = x.n) → upB a (insF h x) = true
 | [], a, _, hx, _ => by simp [insF_nil, upB, hx]
 | y :: r, a, hu, hx, hne => by
  simp only [upB, Bool.and_eq_true, decide_eq_true_eq] at hu
  rw [insF_cons]
  by_cases h : x.n < y.n
  ·rw [if_pos h]
   simp only [upB, Bool.and_eq_true, decide_eq_true_eq]
   exact ⟨hx, h, hu.2⟩
  ·rw [if_neg h]
   simp only [upB, Bool.and_eq_true, decide_eq_true_eq]
   have := hne y (by simp)
   exact ⟨hu.1, up_ins x r y.n hu.2 (by omega) (fun z hz => hne z (by simp [hz]))⟩
theorem mem_ins {h : List Sk} {x y : Sk} : y ∈ insF h x ↔ y = x ∨ y ∈ h := by
 induction h with
 | nil => simp [insF_nil]
 | cons z r ih =>
  rw [insF_cons]
  by_cases hh : x.n < z.n
  ·rw [if_pos hh]; simp
  ·rw [if_neg hh]
   simp only [List.mem_cons, ih]
   constructor
   ·rintro (h | h | h) <;> simp [h]
   ·rintro (h | h | h) <;> simp [h]
theorem put_inv {next : Int} {l : List Sk} {x : Sk} (hR : Right next l) (hx : x.chk = 0) :
  Right (putF next l x).1 (putF next l x).2.1 ∧ next ≤ (putF next l x).1 ∧ (∀ y ∈ (putF next l x).2.2, (y = x ∨ y ∈ l) ∧ next ≤ y.n ∧ y.n < (putF next l x).1) ∧ upB (next - 1) (putF next l x).2.2 = true ∧ (∀ y ∈ (putF next l x).2.1, y = x ∨ y ∈ l) ∧
   (x.n < (putF next l x).1 ∨ ∃ y ∈ (putF next l x).2.1, y.n = x.n) ∧ ¬ (putF next l x).1 = 0 := by
 obtain ⟨r1, r2, r3, r4⟩ := hR
 have hxn := Sk.chk_zero hx
 unfold putF
 by_cases h0 : next = 0
 ·have hl : l = [] := by rcases r1 with ⟨_, h⟩ | h; exact h; omega
  subst hl
  simp only [h0, if_true]
  rw [if_neg (by omega)]
  simp only [List.any_nil, Bool.false_eq_true, if_false, insF_nil]
  have e : relF 4 x.n [x] [] = (x.n + 1, [], [x]) := by simp [relF]
  rw [e]
  refine ⟨⟨.inr (by omega), by simp, by simp, rfl⟩, by omega, ?_, ?_, by simp, .inl (by simp; omega), by simp; omega⟩
  ·intro y hy; simp at hy; subst hy; exact ⟨.inl rfl, by omega, by omega⟩
  ·simp [upB]; omega
 ·have hb : 65536 ≤ next ∧ next ≤ 1000000001 := by rcases r1 with ⟨h, _⟩ | h; omega; exact h
  simp only [if_neg h0]
  by_cases h1 : x.n < next
  ·rw [if_pos h1]
   exact ⟨⟨.inr hb, r2, r3, r4⟩, Int.le_refl _, by simp, rfl, fun y hy => .inr hy, .inl h1, h0⟩
  ·rw [if_neg h1]
   by_cases h2 : (l.any fun y => y.n == x.n) = true
   ·rw [if_pos h2]
    refine ⟨⟨.inr hb, r2, r3, r4⟩, Int.le_refl _, by simp, rfl, fun y hy => .inr hy, ?_, h0⟩
    obtain ⟨y, hy, e⟩ := List.any_eq_true.1 h2
    exact .inr ⟨y, hy, by simpa using e⟩
   ·rw [if_neg h2]
    have hne : ∀ y ∈ l, ¬ y.n = x.n := fun y hy e => h2 (List.any_eq_true.2 ⟨y, hy, by simp [e]⟩)
    have hup : upB (next - 1) (insF l x) = true := up_ins x l (next - 1) (upB_mono r4 (by omega)) (by omega) hne
    obtain ⟨p, i1, i2, i3, i4, i5, i6, i7⟩ := rel_inv 4 (insF l x) next [] hup
    have hmem : ∀ y ∈ insF l x, y = x ∨ y ∈ l := fun y hy => mem_ins.1 hy
    have hchk : ∀ y ∈ insF l x, y.chk = 0 := fun y hy => by rcases hmem y hy with rfl | h; exact hx; exact r3 y h
    have hpm : ∀ y ∈ p, y ∈ insF l x := fun y hy => by rw [i1]; simp [hy]
    have hqm : ∀ y ∈ (relF 4 next (insF l x) []).2.1, y ∈ insF l x := fun y hy => by rw [i1]; simp [hy]
    rw [i2, List.nil_append]
    refine ⟨⟨.inr ⟨by omega, ?_⟩, i6, fun y hy => hchk y (hqm y hy), i5⟩, i4, fun y hy => ⟨hmem y (hpm y hy), ?_, i3 y hy⟩, ?_, fun y hy => hmem y (hqm y hy), ?_, by omega⟩
    ·rcases i7 with i7 | ⟨y, hy, i7⟩
     ·omega
     ·have := Sk.chk_zero (hchk y (hpm y hy)); omega
    ·have := upB_all hup y (hpm y hy); omega
    ·rw [i1] at hup; exact (upB_append hup).1
    ·have hxi : x ∈ insF l x := mem_ins.2 (.inl rfl)
     rw [i1] at hxi
     rcases List.mem_append.1 hxi with h | h
     ·exact .inl (i3 x h)
     ·exact .inr ⟨x, h, rfl⟩
theorem put_again {next : Int} {l : List Sk} {x : Sk} (h0 : ¬ next = 0) (h : x.n < next ∨ ∃ y ∈ l, y.n = x.n) : putF next l x = (next, l, []) := by
 unfold putF
 simp only [if_neg h0]
 by_cases h1 : x.n < next
 ·rw [if_pos h1]
 ·rw [if_neg h1, if_pos]
  rcases h with h | ⟨y, hy, e⟩
  ·exact absurd h h1
  ·exact List.any_eq_true.2 ⟨y, hy, by simp [e]⟩
end Go.Proofs.YtnpaejknoipicagGreat
namespace Go.Proofs.YtnpaejknoipicagGreat
open Go.RowKit Go.Sort
def badO (prev : Option Sk) (x : Sk) : Bool := match prev with
 | none => !x.p.f || x.p.e
 | some a => x.p.e || !nextB a x
def ogo : Option Sk → List Sk → Int
 | _, [] => 0
 | prev, x :: r => if x.chk = 0 then (if badO prev x = true then 4 else ogo (some x) r) else x.chk
def ochk (l : List Sk) : Int := if 4 ≤ l.length then 2 else ogo none l
theorem ogo_split (x : Sk) (s : List Sk) : ∀ (r : List Sk) (prev : Option Sk), ogo prev r = 0 → ogo prev (r ++ x :: s) = ogo (r.foldl (fun _ y => some y) prev) (x :: s)
 | [], _, _ => rfl
 | y :: r, prev, h => by
  simp only [List.cons_append, List.foldl_cons]
  by_cases hy : y.chk = 0
  ·by_cases h2 : badO prev y = true
   ·simp [ogo, hy, h2] at h
   ·have h' : ogo (some y) r = 0 := by simpa [ogo, hy, h2] using h
    rw [← ogo_split x s r (some y) h']
    conv => lhs; unfold ogo
    rw [if_pos hy, if_neg h2]
  ·simp [ogo, hy] at h
theorem olast_at (l : List Sk) (p : Option Sk) (k : Nat) (hk : k ≤ l.length) : (l.take k).foldl (fun _ y => some y) p = if k = 0 then p else some (l[k - 1]?.getD Sk.zero) := by
 cases k with
 | zero => simp
 | succ k =>
  rw [take_one (by omega) Sk.zero, List.foldl_append]
  simp
theorem ogo_all : ∀ (l : List Sk) (prev : Option Sk), ogo prev l = 0 → ∀ x ∈ l, x.chk = 0
 | [], _, _, _, hx => absurd hx List.not_mem_nil
 | y :: r, prev, h, x, hx => by
  by_cases hy : y.chk = 0
  ·by_cases h2 : badO prev y = true
   ·simp [ogo, hy, h2] at h
   ·rcases List.mem_cons.1 hx with rfl | hx
    ·exact hy
    ·exact ogo_all r (some y) (by simpa [ogo, hy, h2] using h) x hx
  ·simp [ogo, hy] at h
end Go.Proofs.YtnpaejknoipicagGreat
namespace Go.Proofs.YtnpaejknoipicagGreat
abbrev frAt (l : List Fr) (k : Nat) : Fr := l[k]?.getD Fr.zero
def Fr.chk (f : Fr) : Int := chkF f.time f.parts
def inPl (l : List Fr) (k : Nat) : Bool := if k = 0 then (frAt l k).key else !(frAt l k).key && decide ((frAt l (k - 1)).time ≤ (frAt l k).time)
def gerr (l : List Fr) (k : Nat) : Int := if (frAt l k).chk = 0 then (if inPl l k then 0 else 4) else (frAt l k).chk
def gchk (l : List Fr) : Int := if l.length = 0 then 5 else if 6 < l.length then 2 else goN (gerr l) l.length 0
def szP (l : List ByteArray) : Nat := (l.map ByteArray.size).sum
def szG (l : List Fr) : Nat := (l.map fun f => szP f.parts).sum
def gsize (l : List Fr) : Nat := if gchk l = 0 then szG l else 0
theorem gerr_zero {l : List Fr} {k : Nat} : gerr l k = 0 ↔ (frAt l k).chk = 0 ∧ inPl l k = true := by
 unfold gerr
 by_cases h : (frAt l k).chk = 0
 ·rw [if_pos h]
  cases inPl l k <;> simp [h]
 ·rw [if_neg h]; simp [h]
theorem gchk_zero {l : List Fr} : gchk l = 0 ↔ 0 < l.length ∧ l.length ≤ 6 ∧ ∀ k, k < l.length → (frAt l k).chk = 0 ∧ inPl l k = true := by
 unfold gchk
 by_cases h0 : l.length = 0
 ·rw [if_pos h0]; constructor
  ·intro h; cases h
  ·intro h; omega
 ·rw [if_neg h0]
  by_cases h6 : 6 < l.length
  ·rw [if_pos h6]; constructor
   ·intro h; cases h
   ·intro h; omega
  ·rw [if_neg h6]
   constructor
   ·intro h
    exact ⟨by omega, by omega, fun k hk => gerr_zero.1 (goN_zero _ _ h k (Nat.zero_le _) (by omega))⟩
   ·rintro ⟨_, _, h⟩
    exact goN_all _ _ (fun j _ hj => gerr_zero.2 (h j (by omega)))
theorem chkF_zero {t : Int} {l : List ByteArray} (h : chkF t l = 0) : 0 ≤ t ∧ t ≤ 1000000 ∧ 0 < l.length ∧ l.length ≤ 4 ∧ ∀ s ∈ l, s.size ≤ 8 := by
 unfold chkF at h
 by_cases h1 : t < 0 ∨ 1000000 < t
 ·rw [if_pos h1] at h; cases h
 rw [if_neg h1] at h
 by_cases h2 : l.length = 0
 ·rw [if_pos h2] at h; cases h
 rw [if_neg h2] at h
 by_cases h3 : 4 < l.length
 ·rw [if_pos h3] at h; cases h
 rw [if_neg h3] at h
 cases h4 : l.any longB
 ·refine ⟨by omega, by omega, by omega, by omega, fun s hs => ?_⟩
  have := List.any_eq_false.1 h4 s hs
  simp [longB] at this; omega
 ·rw [h4] at h; simp at h
theorem szP_le {l : List ByteArray} (h : ∀ s ∈ l, s.size ≤ 8) : szP l ≤ l.length * 8 := by
 induction l with
 | nil => simp [szP]
 | cons s r ih =>
  have h1 := h s List.mem_cons_self
  have h2 := ih (fun t ht => h t (List.mem_cons_of_mem _ ht))
  simp [szP] at h2 ⊢; omega
theorem szP_take (l : List ByteArray) (k : Nat) (hk : k < l.length) : szP (l.take (k + 1)) = szP (l.take k) + (l[k]?.getD ByteArray.empty).size := by
 unfold szP
 rw [take_one hk ByteArray.empty, List.map_append, List.sum_append]; simp
theorem szG_take (l : List Fr) (k : Nat) (hk : k < l.length) : szG (l.take (k + 1)) = szG (l.take k) + szP (frAt l k).parts := by
 unfold szG
 rw [take_one hk Fr.zero, List.map_append, List.sum_append]; simp
theorem szG_le {l : List Fr} (h : ∀ k, k < l.length → szP (frAt l k).parts ≤ 32) : ∀ n, n ≤ l.length → szG (l.take n) ≤ n * 32
 | 0, _ => by simp [szG]
 | n + 1, hn => by
  rw [szG_take l n (by omega)]
  have := szG_le h n (by omega)
  have := h n (by omega)
  omega
theorem fr_szP {f : Fr} (h : f.chk = 0) : szP f.parts ≤ 32 := by
 obtain ⟨_, _, _, h4, h5⟩ := chkF_zero h
 have := szP_le h5
 omega
def growG (g : List Fr) (f : Fr) : List Fr := if f.key then [f] else if g.length = 0 ∨ 6 ≤ g.length ∨ f.time < (frAt g (g.length - 1)).time then g else g ++ [f]
def stepG (s : List (List Fr) × List Fr) (f : Fr) : List (List Fr) × List Fr := (if f.key && decide (0 < s.2.length) then s.1 ++ [s.2] else s.1, growG s.2 f)
def upG (l : List Fr) (k : Nat) : List (List Fr) × List Fr := (l.take k).foldl stepG ([], [])
def groupsE (l : List Fr) : Int := if 100 < l.length then 2 else goN (fun k => (frAt l k).chk) l.length 0
def groupsR (l : List Fr) : List (List Fr) × List Fr := if groupsE l = 0 then upG l l.length else ([], [])
theorem upG_succ (l : List Fr) (k : Nat) (hk : k < l.length) : upG l (k + 1) = stepG (upG l k) (frAt l k) := by
 unfold upG
 rw [take_one hk Fr.zero, List.foldl_append]
 rfl
theorem growG_len (g : List Fr) (f : Fr) (h : g.length ≤ 6) : (growG g f).length ≤ 6 := by
 unfold growG
 split
 ·simp
 ·split
  ·exact h
  ·simp; omega
theorem upG_len (l : List Fr) : ∀ k, k ≤ l.length → (upG l k).2.length ≤ 6 ∧ (upG l k).1.length ≤ k
 | 0, _ => by simp [upG]
 | k + 1, hk => by
  obtain ⟨h1, h2⟩ := upG_len l k (by omega)
  rw [upG_succ l k (by omega)]
  refine ⟨growG_len _ _ h1, ?_⟩
  simp only [stepG]
  split
  ·simp; omega
  ·omega
def sameGs (L M : List (List Fr)) : Bool := decide (L = M)
theorem sameGs_len {l m : List (List Fr)} (h : ¬ l.length = m.length) : sameGs l m = false := decide_eq_false fun e => h (by rw [e])
theorem sameGs_at {l m : List (List Fr)} {k : Nat} (hx : ¬ (l[k]?.getD []) = (m[k]?.getD [])) : sameGs l m = false := decide_eq_false fun e => hx (by rw [e])
theorem sameGs_ext {l m : List (List Fr)} (hl : l.length = m.length) (h : ∀ k, k < l.length → (l[k]?.getD []) = (m[k]?.getD [])) : sameGs l m = true := by
 refine decide_eq_true (List.ext_getElem hl fun k h1 h2 => ?_)
 have := h k h1
 rw [List.getElem?_eq_getElem h1, List.getElem?_eq_getElem h2] at this
 exact this
theorem frAt_append (l m : List Fr) (k : Nat) : frAt (l ++ m) k = if k < l.length then frAt l k else frAt m (k - l.length) := by
 unfold frAt
 split
 ·rename_i h; rw [List.getElem?_append_left h]
 ·rename_i h; rw [List.getElem?_append_right (by omega)]
theorem gchk_one {f : Fr} (h : f.chk = 0) (hk : f.key = true) : gchk [f] = 0 := by
 refine gchk_zero.2 ⟨by simp, by simp, fun k hk' => ?_⟩
 have : k = 0 := by simpa using hk'
 subst this
 exact ⟨h, by unfold inPl; rw [if_pos rfl]; exact hk⟩
theorem gchk_snoc {o : List Fr} {f : Fr} (ho : gchk o = 0) (h6 : o.length < 6) (h : f.chk = 0) (hk : f.key = false) (ht : (frAt o (o.length - 1)).time ≤ f.time) : gchk (o ++ [f]) = 0 := by
 obtain ⟨h1, _, h3⟩ := gchk_zero.1 ho
 refine gchk_zero.2 ⟨by simp, by simp; omega, fun k hk' => ?_⟩
 simp at hk'
 by_cases hl : k < o.length
 ·have e : frAt (o ++ [f]) k = frAt o k := by rw [frAt_append, if_pos hl]
  have := h3 k hl
  rw [e]
  refine ⟨this.1, ?_⟩
  have h2 := this.2
  unfold inPl at h2 ⊢
  rw [e]
  by_cases h0 : k = 0
  ·rw [if_pos h0] at h2 ⊢; exact h2
  ·rw [if_neg h0] at h2 ⊢
   rw [frAt_append, if_pos (by omega)]; exact h2
 ·have e0 : k = o.length := by omega
  subst e0
  have e : frAt (o ++ [f]) o.length = f := by rw [frAt_append, if_neg (by omega)]; simp [frAt]
  rw [e]
  refine ⟨h, ?_⟩
  unfold inPl
  rw [if_neg (by omega), e, hk, frAt_append, if_pos (by omega)]
  simp [ht]
def RightG (s : List (List Fr) × List Fr) : Prop := (∀ g ∈ s.1, gchk g = 0) ∧ (s.2 = [] ∨ gchk s.2 = 0)
theorem stepG_right {s : List (List Fr) × List Fr} {f : Fr} (h : RightG s) (hf : f.chk = 0) : RightG (stepG s f) := by
 obtain ⟨A, o⟩ := s
 obtain ⟨h1, h2⟩ := h
 simp only at h1 h2
 constructor
 ·simp only [stepG]
  split
  ·rename_i hc
   simp only [Bool.and_eq_true, decide_eq_true_eq] at hc
   intro g hg
   rcases List.mem_append.1 hg with hg | hg
   ·exact h1 g hg
   ·simp at hg; subst hg
    rcases h2 with h2 | h2
    ·rw [h2] at hc; simp at hc
    ·exact h2
  ·exact h1
 ·simp only [stepG]
  unfold growG
  split
  ·rename_i hk; right; exact gchk_one hf hk
  ·split
   ·exact h2
   ·rename_i hk hc
    right
    rcases h2 with h2 | h2
    ·rw [h2] at hc; simp at hc
    ·exact gchk_snoc h2 (by omega) hf (by simpa using hk) (by omega)
inductive SubF : List Fr → List Fr → Prop
 | nil {l : List Fr} : (∀ f ∈ l, f.key = false) → SubF [] l
 | take {f : Fr} {X l : List Fr} : SubF X l → SubF (f :: X) (f :: l)
 | skip {f : Fr} {X l : List Fr} : f.key = false → SubF X l → SubF X (f :: l)
theorem SubF.drop {f : Fr} (hf : f.key = false) : ∀ {l X : List Fr}, SubF (f :: X) l → SubF X l
 | [], _, h => by cases h
 | g :: l, X, h => by
  cases h with
  | take h => exact .skip hf h
  | skip h1 h2 => exact .skip h1 (SubF.drop hf h2)
theorem SubF.none {l : List Fr} (h : SubF [] l) : ∀ f ∈ l, f.key = false := by
 induction l with
 | nil => intro f hf; cases hf
 | cons g r ih =>
  cases h with
  | nil h => exact h
  | skip h1 h2 =>
   intro f hf
   rcases List.mem_cons.1 hf with rfl | hf
   ·exact h1
   ·exact ih h2 f hf
abbrev grAt (L : List (List Fr)) (k : Nat) : List Fr := L[k]?.getD []
def sumG (L : List (List Fr)) : Nat := (L.map gsize).sum
def tooB (L : List (List Fr)) : Bool := decide (1 < L.length) && decide (100 < sumG L)
def fullB (L : List (List Fr)) : Bool := decide (5 < L.length) || tooB L
def stchk (first : Int) (L : List (List Fr)) (O : List Fr) : Int :=
 if first < 0 then 3 else if 100000 < first then 3 else if 5 < L.length then 2 else
  if goN (fun k => gchk (grAt L k)) L.length 0 = 0 then (if tooB L then 2 else if 0 < O.length then gchk O else 0) else goN (fun k => gchk (grAt L k)) L.length 0
theorem gsize_le (g : List Fr) : gsize g ≤ 192 := by
 unfold gsize
 by_cases h : gchk g = 0
 ·rw [if_pos h]
  obtain ⟨_, h2, h3⟩ := gchk_zero.1 h
  have := szG_le (l := g) (fun k hk => fr_szP (h3 k hk).1) g.length (Nat.le_refl _)
  rw [List.take_length] at this
  omega
 ·rw [if_neg h]; omega
theorem sumG_take (L : List (List Fr)) (k : Nat) (hk : k < L.length) : sumG (L.take (k + 1)) = sumG (L.take k) + gsize (grAt L k) := by
 unfold sumG
 rw [take_one hk [], List.map_append, List.sum_append]; simp
theorem stchk_zero {first : Int} {L : List (List Fr)} {O : List Fr} : stchk first L O = 0 ↔ 0 ≤ first ∧ first ≤ 100000 ∧ L.length ≤ 5 ∧ (∀ g ∈ L, gchk g = 0) ∧ tooB L = false ∧ (O = [] ∨ gchk O = 0) := by
 unfold stchk
 by_cases h1 : first < 0
 ·rw [if_pos h1]; constructor
  ·intro h; cases h
  ·intro h; omega
 rw [if_neg h1]
 by_cases h2 : 100000 < first
 ·rw [if_pos h2]; constructor
  ·intro h; cases h
  ·intro h; omega
 rw [if_neg h2]
 by_cases h3 : 5 < L.length
 ·rw [if_pos h3]; constructor
  ·intro h; cases h
  ·intro h; omega
 rw [if_neg h3]
 have hall : goN (fun k => gchk (grAt L k)) L.length 0 = 0 ↔ ∀ g ∈ L, gchk g = 0 := by
  constructor
  ·intro h g hg
   obtain ⟨k, hk, e⟩ := List.mem_iff_getElem.1 hg
   have := goN_zero _ _ h k (Nat.zero_le _) (by omega)
   rw [show grAt L k = g by simp [grAt, List.getElem?_eq_getElem hk, e]] at this
   exact this
  ·intro h
   refine goN_all _ _ (fun j _ hj => h _ ?_)
   have hj' : j < L.length := by omega
   rw [show grAt L j = L[j] by simp [grAt, List.getElem?_eq_getElem hj']]
   exact List.getElem_mem _
 by_cases h4 : goN (fun k => gchk (grAt L k)) L.length 0 = 0
 ·rw [if_pos h4]
  have h5 := hall.1 h4
  cases h6 : tooB L
  ·simp only [Bool.false_eq_true, if_false]
   by_cases h7 : 0 < O.length
   ·rw [if_pos h7]
    have hne : ¬ O = [] := fun e => by rw [e] at h7; simp at h7
    constructor
    ·intro h; exact ⟨by omega, by omega, by omega, h5, trivial, .inr h⟩
    ·rintro ⟨_, _, _, _, _, h | h⟩
     ·exact absurd h hne
     ·exact h
   ·rw [if_neg h7]
    have he : O = [] := List.eq_nil_of_length_eq_zero (by omega)
    exact ⟨fun _ => ⟨by omega, by omega, by omega, h5, trivial, .inl he⟩, fun _ => rfl⟩
  ·simp only [if_true]
   constructor
   ·intro h; cases h
   ·rintro ⟨_, _, _, _, h, _⟩; cases h
 ·rw [if_neg h4]
  constructor
  ·intro h; exact absurd h h4
  ·rintro ⟨_, _, _, h, _⟩; exact absurd (hall.2 h) h4
end Go.Proofs.YtnpaejknoipicagGreat
namespace Go.Proofs.YtnpaejknoipicagGreat
open Go.RowKit
set_option maxHeartbeats 1600000 in
theorem isInPlace_any (S : Nat → Prop) (v : Value) (l : List Fr) (k : Nat) (w : World) (hv : FrsIn S w v l) (hk : k < l.length) :
  Calls Tryz.prog 157 #[v, .int .i64 k] w fun e w' => e = .returned (.bool (inPl l k)) ∧ Below w.heap.size w w' := by
 obtain ⟨ao, c, hva, h1, h2, hc⟩ := hv
 obtain ⟨b, off, rfl, hb, _, pv, c0, c1, _⟩ := hc k hk
 obtain ⟨n, hn⟩ : ∃ n, n = l.length := ⟨_, rfl⟩
 rw [← hn] at hva hk h1
 have hki : (k : Int) < (n : Int) := by omega
 unfold inPl
 by_cases h0 : k = 0
 ·rw [if_pos h0]
  subst h0
  simp only [Nat.zero_mul, Nat.add_zero] at c0 c1
  obtain ⟨q, hq⟩ : ∃ q, q = (frAt l 0).key := ⟨_, rfl⟩
  rw [← hq] at c1 ⊢
  subst hva
  clear hn hc hq
  cases q
  all_goals
   go_enter Tryz.func157, Tryz.ntmps157
   go_wp2_with fail
   go_quiet (fail)
   go_wp2
   go_ret
   exact ⟨rfl, below_drewN (Below.refl _ _) _⟩
 ·rw [if_neg h0]
  obtain ⟨b', off', e1, _, _, pv', d0, _⟩ := hc (k - 1) (by omega)
  injection e1 with e1
  injection e1 with e1 e2
  subst e1 e2
  obtain ⟨k1, hk1⟩ : ∃ k1, k1 = k - 1 := ⟨_, rfl⟩
  rw [← hk1] at d0 ⊢
  have hk1i : (k : Int) - 1 = (k1 : Int) := by omega
  have hk1l : (k1 : Int) < (n : Int) := by omega
  have hk1w : IntKind.i64.wrap (k1 : Int) = (k1 : Int) := by rw [IntKind.wrap_i64]; omega
  have hk0i : ((k : Int) == 0) = false := by simpa using h0
  obtain ⟨q, hq⟩ : ∃ q, q = (frAt l k).key := ⟨_, rfl⟩
  obtain ⟨t, ht⟩ : ∃ t, t = (frAt l k).time := ⟨_, rfl⟩
  obtain ⟨t', ht'⟩ : ∃ t', t' = (frAt l k1).time := ⟨_, rfl⟩
  rw [← hq, ← ht, ← ht']
  rw [← hq] at c1
  rw [← ht] at c0
  rw [← ht'] at d0
  subst hva
  clear hn hc hq ht ht' hk1 h0
  cases q
  all_goals
   go_enter Tryz.func157, Tryz.ntmps157
   go_wp2_with fail
   go_quiet (fail)
   go_wp2
   go_ret
   exact ⟨by simp, below_drewN (Below.refl _ _) _⟩
set_option maxHeartbeats 2000000 in
theorem groupCheck_any (S : Nat → Prop) (v : Value) (l : List Fr) (w : World) (hv : FrsIn S w v l) :
  Calls Tryz.prog 134 #[.agg #[v]] w fun e w' => e = .returned (.int .i64 (gchk l)) ∧ Below w.heap.size w w' := by
 have HV : Hid (FrsIn S w v l) := hv
 obtain ⟨ao, c, hva, h1, h2, hc⟩ := hv
 have HC : Hid (∀ k, k < l.length → ∃ b off, ao = some ⟨b, off, none⟩ ∧ b < w.heap.size ∧ S b ∧ At3In S w b (off + k * 3) (l[k]?.getD Fr.zero)) := hc
 obtain ⟨n, hn⟩ : ∃ n, n = l.length := ⟨_, rfl⟩
 have HN : Hid (n = l.length) := hn
 obtain ⟨G, hG⟩ : ∃ G, G = gchk l := ⟨_, rfl⟩
 have HG : Hid (G = if n = 0 then 5 else if 6 < n then 2 else goN (gerr l) n 0) := by show _ = _; rw [hG, hn]; rfl
 rw [← hn] at hva h1
 rw [← hG]
 clear hc hn hG
 subst hva
 by_cases h0 : n = 0
 ·have hg : G = 5 := by rw [HG.out, if_pos h0]
  rw [hg]
  subst h0
  go_enter Tryz.func134, Tryz.ntmps134
  go_wp2
  go_ret
  exact ⟨rfl, by go_grown⟩
 have h0i : ((n : Int) == 0) = false := by simpa using h0
 by_cases h6 : 6 < n
 ·have hg : G = 2 := by rw [HG.out, if_neg h0, if_pos h6]
  rw [hg]
  go_enter Tryz.func134, Tryz.ntmps134
  go_wp2
  go_ret
  exact ⟨rfl, by go_grown⟩
 have HG2 : Hid (G = goN (gerr l) n 0) := by show _ = _; rw [HG.out, if_neg h0, if_neg h6]
 have hn6 : n ≤ 6 := by omega
 clear HG h0 h6
 go_enter Tryz.func134, Tryz.ntmps134
 go_wp2_with fail
 go_loopw [17] (fun i wr => ∃ k : Nat, k ≤ n ∧ i = .int .i64 k ∧ Hid (∀ j, j < k → gerr l j = 0) ∧ Hid (Blk wr w.heap.size #[.slice ao n c] 30) ∧ Hid (Below w.heap.size w wr))
  (fun i _ => n - (intOf i).toNat)
 case atStart => exact ⟨0, Nat.zero_le _, rfl, (show ∀ j, j < 0 → _ from fun j hj => absurd hj (Nat.not_lt_zero _)), Blk.new w _ _, (Below.refl _ w).alloc (Nat.le_refl _) _⟩
 case round =>
  obtain ⟨k, hk, rfl, HK, KB, HB⟩ := hrel
  have b0 := KB.out.one
  by_cases hlt : k < n
  ·obtain ⟨b, off, hao, hb, _, pv, c0, c1, c2, hp⟩ := HC.out k (by rw [← HN.out]; exact hlt)
   subst hao
   have d0 := (HB.out.cell (p := ⟨b, off + k * 3, none⟩) hb).trans c0
   have d1 := (HB.out.cell (p := ⟨b, off + k * 3 + 1, none⟩) hb).trans c1
   have d2 := (HB.out.cell (p := ⟨b, off + k * 3 + 2, none⟩) hb).trans c2
   obtain ⟨f, hf⟩ : ∃ f, f = frAt l k := ⟨_, rfl⟩
   rw [show (l[k]?.getD Fr.zero) = f from hf.symm] at d0 d1 hp
   obtain ⟨pa, pc, ep⟩ := hp.1.len
   obtain ⟨pn, hpn⟩ : ∃ pn, pn = f.parts.length := ⟨_, rfl⟩
   rw [← hpn] at ep
   subst ep
   obtain ⟨ft, fk, fp⟩ := f
   simp only at d0 d1 d2 hp hpn
   obtain ⟨ck, hck⟩ : ∃ ck, ck = chkF ft fp := ⟨_, rfl⟩
   have HCF : Hid (∀ w' : World, Strs w' (.slice pa pn pc) fp → Calls Tryz.prog 94 #[.agg #[.int .i64 ft, .bool fk, .slice pa pn pc]] w' fun e w'' => e = .returned (.int .i64 ck) ∧ Below w'.heap.size w' w'') := fun w' hs => by rw [hck]; exact frameCheck_any ft fk _ fp w' hs hp.2.1
   have HP : Hid (Strs wr (.slice pa pn pc) fp) := hp.1.below HB.out
   have HCK : Hid ((frAt l k).chk = ck) := by show _ = _; rw [← hf, hck]; rfl
   have hlti : (k : Int) < (n : Int) := by omega
   have HIP : Hid (∀ w' : World, FrsIn S w' (.slice (some ⟨b, off, none⟩) n c) l → Calls Tryz.prog 157 #[.slice (some ⟨b, off, none⟩) n c, .int .i64 k] w' fun e w'' => e = .returned (.bool (inPl l k)) ∧ Below w'.heap.size w' w'') := fun w' hs => isInPlace_any S _ l k w' hs (by rw [← HN.out]; exact hlt)
   obtain ⟨ip, hip⟩ : ∃ ip, ip = inPl l k := ⟨_, rfl⟩
   rw [← hip] at HIP
   have HII : Hid (ip = inPl l k) := hip
   have hbw := KB.out.lt
   clear c0 c1 c2 hp hf hck hpn hip
   go_wp2_with fail
   refine (HCF.out _ (HP.out.alloc _)).mono ?_
   rintro e w1 ⟨rfl, hb1⟩
   have B1 : Hid (Below wr.heap.size wr w1) := ((Below.refl _ wr).alloc (Nat.le_refl _) _).trans (hb1.mono (by simp))
   have K1 : Hid (Blk w1 w.heap.size #[.slice (some ⟨b, off, none⟩) n c] 30) := KB.out.below B1.out KB.out.lt
   have V1 : Hid (FrsIn S w1 (.slice (some ⟨b, off, none⟩) n c) l) := (HV.out.below HB.out).below B1.out
   have BB1 : Hid (Below w.heap.size w w1) := HB.out.trans (B1.out.mono HB.out.size)
   clear hb1 d0 d1 d2 b0
   have b1 := K1.out.one
   by_cases hc0 : ck = 0
   ·subst hc0
    go_wp2_with fail
    refine (HIP.out _ V1.out).mono ?_
    rintro e w2 ⟨rfl, hb2⟩
    have K2 : Hid (Blk w2 w.heap.size #[.slice (some ⟨b, off, none⟩) n c] 30) := K1.out.below hb2 K1.out.lt
    have BB2 : Hid (Below w.heap.size w w2) := BB1.out.trans (hb2.mono BB1.out.size)
    clear hb2 b1
    cases ip
    ·have HGE : Hid (G = 4) := by
      show _ = _
      have he : gerr l k = 4 := by unfold gerr; rw [if_pos HCK.out, ← HII.out]; rfl
      rw [HG2.out, goN_hit n 0 k (Nat.zero_le _) (by omega) (fun j _ hj => HK.out j hj) (by rw [he]; decide), he]
     go_wp2
     go_ret
     exact ⟨by rw [HGE.out]; rfl, BB2.out⟩
    ·have HGE : Hid (gerr l k = 0) := gerr_zero.2 ⟨HCK.out, HII.out.symm⟩
     go_wp2
     go_roundw
     case rel => exact ⟨k + 1, by omega, by go_num, (show ∀ j, j < k + 1 → _ from fun j hj => by
      by_cases e : j = k
      ·subst e; exact HGE.out
      ·exact HK.out j (by omega)), K2, BB2⟩
     case measure => simp [intOf]; omega
   ·have HGE : Hid (G = ck) := by
     show _ = _
     have he : gerr l k = ck := by unfold gerr; rw [if_neg (by rw [HCK.out]; exact hc0), HCK.out]
     rw [HG2.out, goN_hit n 0 k (Nat.zero_le _) (by omega) (fun j _ hj => HK.out j hj) (by rw [he]; exact hc0), he]
    go_wp2
    go_ret
    exact ⟨by rw [HGE.out]; rfl, BB1.out⟩
  ·have hkl : k = n := by omega
   subst hkl
   have HGE : Hid (G = 0) := by show _ = _; rw [HG2.out]; exact goN_all _ _ (fun j _ hj => HK.out j (by omega))
   go_wp2
   go_ret
   exact ⟨by rw [HGE.out]; rfl, HB.out⟩
set_option maxHeartbeats 2000000 in
theorem groupSize_any (S : Nat → Prop) (v : Value) (l : List Fr) (w : World) (hv : FrsIn S w v l) :
  Calls Tryz.prog 158 #[.agg #[v]] w fun e w' => e = .returned (.tuple #[.int .i64 (gsize l), .int .i64 (gchk l)]) ∧ Below w.heap.size w w' := by
 have HCG : Hid (∀ w' : World, FrsIn S w' v l → Calls Tryz.prog 134 #[.agg #[v]] w' fun e w'' => e = .returned (.int .i64 (gchk l)) ∧ Below w'.heap.size w' w'') := fun w' hs => groupCheck_any S v l w' hs
 have HV : Hid (FrsIn S w v l) := hv
 obtain ⟨ao, c, hva, h1, h2, hc⟩ := hv
 have HC : Hid (∀ k, k < l.length → ∃ b off, ao = some ⟨b, off, none⟩ ∧ b < w.heap.size ∧ S b ∧ At3In S w b (off + k * 3) (l[k]?.getD Fr.zero)) := hc
 obtain ⟨n, hn⟩ : ∃ n, n = l.length := ⟨_, rfl⟩
 have HN : Hid (n = l.length) := hn
 obtain ⟨G, hG⟩ : ∃ G, G = gchk l := ⟨_, rfl⟩
 obtain ⟨Z, hZ⟩ : ∃ Z, Z = gsize l := ⟨_, rfl⟩
 have HZ : Hid (Z = if G = 0 then szG l else 0) := by show _ = _; rw [hZ, hG]; rfl
 have HGZ : Hid (G = 0 → 0 < l.length ∧ l.length ≤ 6 ∧ ∀ k, k < l.length → (frAt l k).chk = 0 ∧ inPl l k = true) := fun h => gchk_zero.1 (by rw [← hG]; exact h)
 rw [← hn] at hva h1
 rw [← hG] at HCG
 rw [← hG, ← hZ]
 clear hc hn hG hZ
 subst hva
 by_cases hG0 : G = 0
 case neg =>
  have hZ0 : Z = 0 := by rw [HZ.out, if_neg hG0]
  subst hZ0
  go_enter Tryz.func158, Tryz.ntmps158
  go_wp2_with fail
  refine (HCG.out _ (HV.out.alloc _)).mono ?_
  rintro e w1 ⟨rfl, hb1⟩
  have B1 : Hid (Below w.heap.size w w1) := ((Below.refl _ w).alloc (Nat.le_refl _) _).trans (hb1.mono (by simp))
  clear hb1
  go_wp2
  exact bodyPost_ret (v := .tuple #[.int .i64 0, .int .i64 G]) (by simp [results, Tryz.results158, go_sem]) rfl ⟨rfl, B1.out⟩
 have HZ2 : Hid (Z = szG l) := by show _ = _; rw [HZ.out, if_pos hG0]
 have hg := HGZ.out hG0
 have hn6 : n ≤ 6 := by rw [HN.out]; exact hg.2.1
 have HFR : Hid (∀ k, k < n → (frAt l k).chk = 0) := fun k hk => (hg.2.2 k (by rw [← HN.out]; exact hk)).1
 have HLE : Hid (∀ k, k ≤ n → szG (l.take k) ≤ k * 32) := fun k hk => szG_le (fun j hj => fr_szP (hg.2.2 j hj).1) k (by rw [← HN.out]; exact hk)
 subst hG0
 clear HZ HGZ hg
 go_enter Tryz.func158, Tryz.ntmps158
 go_wp2_with fail
 refine (HCG.out _ (HV.out.alloc _)).mono ?_
 rintro e w1 ⟨rfl, hb1⟩
 have B1 : Hid (Below w.heap.size w w1) := ((Below.refl _ w).alloc (Nat.le_refl _) _).trans (hb1.mono (by simp))
 have k0 := ((Blk.new w #[.slice ao n c] 30).below hb1 (by simp)).one
 clear hb1 HCG
 go_wp2_with fail
 go_loopw [5, 18] (fun s i wr => ∃ (k z : Nat), k ≤ n ∧ i = .int .i64 k ∧ s = .int .i64 z ∧ Hid (z = szG (l.take k)) ∧ Hid (Below w.heap.size w wr))
  (fun _ i _ => n - (intOf i).toNat)
 case atStart => exact ⟨0, 0, Nat.zero_le _, rfl, rfl, (show 0 = szG (l.take 0) from rfl), B1⟩
 case round =>
  obtain ⟨k, z, hk, rfl, rfl, HZK, HB⟩ := hrel
  by_cases hlt : k < n
  ·obtain ⟨b, off, hao, hb, _, pv, c0, c1, c2, hp⟩ := HC.out k (by rw [← HN.out]; exact hlt)
   subst hao
   have d0 := (HB.out.cell (p := ⟨b, off + k * 3, none⟩) hb).trans c0
   have d1 := (HB.out.cell (p := ⟨b, off + k * 3 + 1, none⟩) hb).trans c1
   have d2 := (HB.out.cell (p := ⟨b, off + k * 3 + 2, none⟩) hb).trans c2
   obtain ⟨f, hf⟩ : ∃ f, f = frAt l k := ⟨_, rfl⟩
   rw [show (l[k]?.getD Fr.zero) = f from hf.symm] at d0 d1 hp
   obtain ⟨po, pc, ep, hpc⟩ := (hp.1.below HB.out).parts
   obtain ⟨pn, hpn⟩ : ∃ pn, pn = f.parts.length := ⟨_, rfl⟩
   have HPC : Hid (∀ j, j < f.parts.length → ∃ b off, po = some ⟨b, off, none⟩ ∧ b < wr.heap.size ∧ wr.cell? ⟨b, off + j, none⟩ = some (.string (f.parts[j]?.getD ByteArray.empty))) := hpc
   have HPN : Hid (pn = f.parts.length) := hpn
   rw [← hpn] at ep
   subst ep
   have hlti : (k : Int) < (n : Int) := by omega
   have hfz := HFR.out k hlt
   rw [← hf] at hfz
   have hp4 : pn ≤ 4 := by rw [hpn]; exact (chkF_zero hfz).2.2.2.1
   have hp8 : ∀ j, j < pn → (f.parts[j]?.getD ByteArray.empty).size ≤ 8 := fun j hj => by
    rw [List.getElem?_eq_getElem (by omega), Option.getD_some]
    exact (chkF_zero hfz).2.2.2.2 _ (List.getElem_mem _)
   have HP8 : Hid (∀ j, j < pn → (f.parts[j]?.getD ByteArray.empty).size ≤ 8) := hp8
   have hz := HLE.out k hk
   rw [← HZK.out] at hz
   have HSU : Hid (szG (l.take (k + 1)) = z + szP f.parts) := by show _ = _; rw [szG_take l k (by rw [← HN.out]; exact hlt), ← HZK.out, hf]
   clear c0 c1 c2 hp hpc hpn hfz hp8 hf
   go_wp2_with fail
   obtain ⟨W, hW⟩ : ∃ W, W = wr.alloc (.cells #[.int .i64 f.time, .bool f.key, .slice po pn pc] 98) := ⟨_, rfl⟩
   have BW : Hid (Below wr.heap.size wr W) := by rw [hW]; exact (Below.refl _ wr).alloc (Nat.le_refl _) _
   rw [← hW]
   clear hW d0 d1 d2
   go_loopw [5, 25] (fun s i wi => ∃ (j y : Nat), j ≤ pn ∧ i = .int .i64 j ∧ s = .int .i64 y ∧ Hid (y = z + szP (f.parts.take j)) ∧ Hid (y ≤ z + j * 8) ∧ W = wi)
    (fun _ i _ => pn - (intOf i).toNat)
   case atStart => exact ⟨0, z, Nat.zero_le _, rfl, rfl, (show z = z + szP (f.parts.take 0) from rfl), (show _ ≤ _ from Nat.le_refl _), rfl⟩
   case round =>
    obtain ⟨j, y, hj, rfl, rfl, HY, HYL, rfl⟩ := hrel
    by_cases hjl : j < pn
    ·obtain ⟨b2, off2, hpo, hb2, hct⟩ := HPC.out j (by rw [← HPN.out]; exact hjl)
     have hct2 := (BW.out.cell (p := ⟨b2, off2 + j, none⟩) hb2).trans hct
     obtain ⟨s, hs⟩ : ∃ s, s = f.parts[j]?.getD ByteArray.empty := ⟨_, rfl⟩
     have h8 := HP8.out j hjl
     have HNY : Hid (y + s.size = z + szP (f.parts.take (j + 1))) := by show _ = _; rw [szP_take f.parts j (by rw [← HPN.out]; exact hjl), HY.out, ← hs]; omega
     rw [← hs] at hct2 h8
     subst hpo
     have hji : (j : Int) < (pn : Int) := by omega
     have hyl := HYL.out
     clear hct hs
     go_wp2_with fail
     go_roundw
     case rel => exact ⟨j + 1, y + s.size, by omega, by go_num, by go_num, HNY, (show _ ≤ _ by omega), by first | rfl | trivial⟩
     case measure => simp [intOf]; omega
    ·have hjn : j = pn := by omega
     subst hjn
     have hyz := HY.out
     rw [HPN.out, List.take_length, ← HSU.out] at hyz
     have HY2 : Hid (y = szG (l.take (k + 1))) := hyz
     clear hyz
     go_wp2_with fail
     go_roundw
     case rel => exact ⟨k + 1, y, by omega, by go_num, rfl, HY2, HB.out.trans (BW.out.mono HB.out.size)⟩
     case measure => simp [intOf]; omega
  ·have hkl : k = n := by omega
   subst hkl
   have HE : Hid (Z = z) := by show _ = _; rw [HZ2.out, HZK.out, HN.out, List.take_length]
   go_wp2
   exact bodyPost_ret (v := .tuple #[.int .i64 z, .int .i64 0]) (by simp [results, Tryz.results158, go_sem]) rfl ⟨by rw [HE.out], HB.out⟩
end Go.Proofs.YtnpaejknoipicagGreat
