/-
  Contract: the keeper's letOut.
-/
import Derived.Test.YtnpaejknoipicafGreatKeeper2
import Derived.Deep.LoopGhost
import Derived.Deep.QuietTactic
import Derived.BigQuiet
namespace Go.Proofs.YtnpaejknoipicafGreat
open Go.RowKit

/-- a keeper's block and what its slices show -/
def Keep (base K : Nat) (w : World) (next : Int) (h o : List Sk) : Prop :=
  ∃ (a : Option Addr) (c : Nat) (ov : Value), Blk w K #[.int .i64 next, .slice a h.length c, ov] 219 ∧ Sls w (.slice a h.length c) h ∧ h.length ≤ c ∧
    (∀ g, (Value.slice a h.length c).ownBlock = some g → base ≤ g ∧ ∃ cur, Blk w g cur 91) ∧ w.ownsRow base 91 7 ov o.length (skCells o) ∧ Apart ov (.slice a h.length c)

theorem Keep.heap {base K : Nat} {w w' : World} {next : Int} {h o : List Sk} (hk : Keep base K w next h o) (e : w'.heap = w.heap) : Keep base K w' next h o := by
  obtain ⟨a, c, ov, kK, kS, kc, kB, kO, kA⟩ := hk
  have eb : ∀ {g : Nat} {C : Array Value} {t : TypeId}, Blk w g C t → Blk w' g C t := fun h => by unfold Blk at h ⊢; rw [e]; exact h
  refine ⟨a, c, ov, eb kK, ?_, kc, fun g hg => ?_, owns_same kO (fun g _ => by rw [e]), kA⟩
  · obtain ⟨hl, h | ⟨b, off, c, hv, hb, hc⟩⟩ := kS
    · exact ⟨hl, .inl h⟩
    · exact ⟨hl, .inr ⟨b, off, c, hv, by rw [e]; exact hb, fun j u hj => (World.cell?_of_block (by rw [e])).trans (hc j u hj)⟩⟩
  · obtain ⟨h1, cur, h2⟩ := kB g hg
    exact ⟨h1, cur, eb h2⟩
theorem Keep.drewN {base K : Nat} {w : World} {next : Int} {h o : List Sk} (hk : Keep base K w next h o) (q : Nat) : Keep base K (w.drewN q) next h o := hk.heap (heap_drewN w q)

/-- numbers that may be -/
def Nums (h : List Sk) : Prop := ∀ x ∈ h, 65536 ≤ x.n ∧ x.n ≤ 1000000000

theorem Sls.cons {w : World} {a : Option Addr} {c : Nat} {x : Sk} {r : List Sk} (h : Sls w (.slice a (x :: r).length c) (x :: r)) :
    ∃ g off, a = some ⟨g, off, none⟩ ∧ g < w.heap.size ∧ At7 w g off x := by
  obtain ⟨ao, c', hv, hc⟩ := h.parts
  cases hv
  obtain ⟨g, off, h1, h2, h3⟩ := hc 0 (by simp)
  refine ⟨g, off, h1, h2, ?_⟩
  simpa using h3
theorem Sls.tail {w : World} {g off c : Nat} {x : Sk} {r : List Sk} (h : Sls w (.slice (some ⟨g, off, none⟩) (x :: r).length c) (x :: r)) : Sls w (.slice (some ⟨g, off + 7, none⟩) r.length (c - 1)) r := by
  obtain ⟨hl, ⟨h0, _⟩ | ⟨b, o, c', hv, hb, hc⟩⟩ := h
  · simp at h0
  · cases hv
    refine ⟨skCells_len r, .inr ⟨g, off + 7, c - 1, rfl, hb, fun j u hj => ?_⟩⟩
    rw [Nat.add_assoc]
    refine hc (7 + j) u ?_
    show (x.cells.toList ++ skCells r)[7 + j]? = some u
    rw [List.getElem?_append_right (by simp [Sk.cells]), show 7 + j - x.cells.toList.length = j by simp [Sk.cells]]
    exact hj

/-- one more has gone out -/
theorem letOut_more {base K g off m c c' : Nat} {next' : Int} {x : Sk} {r o' : List Sk} {R : Int × List Sk × List Sk} {w w2 : World} {ov : Value} {a' : Option Addr} (hbK : base ≤ K) (hbg : base ≤ g) (hnu : Nums (x :: r)) (hne : 0 ≤ next' ∧ next' ≤ 1000000001) (hle : (x :: r).length + o'.length ≤ 100)
    (HL : letF next' (x :: r) o' = R) (hxn : x.n = next') (hxr : r.length + 1 = m) (kc : (x :: r).length ≤ c)
    (G : Blk w2 K #[.int .i64 next', .slice (some ⟨g, off, none⟩) m c, ov] 219 ∧ Sls w2 (.slice (some ⟨g, off, none⟩) (x :: r).length c) (x :: r) ∧ (∃ cur, Blk w2 g cur 91) ∧ w2.ownsRow base 91 7 (.slice a' (o'.length + 1) c') (o'.length + 1) (skCells o' ++ x.cells.toList) ∧
      (Value.slice a' (o'.length + 1) c').ownBlock ≠ some g ∧ Below base w w2)
    (H : Value) (w3 : World) (hH : H = .slice (some ⟨g, off + 7, none⟩) (m - 1) (c - 1) ∨ H = .slice (some ⟨g, off, none⟩) 0 0 ∧ c = 1) (hw3 : w3 = ((w2.setCell ⟨K, 2, none⟩ (.slice a' (o'.length + 1) c')).setCell ⟨K, 1, none⟩ H).setCell ⟨K, 0, none⟩ (.int .i64 (next' + 1))) :
    Keep base K w3 (next' + 1) r (o' ++ [x]) ∧ letF (next' + 1) r (o' ++ [x]) = R ∧ Nums r ∧ (0 ≤ next' + 1 ∧ next' + 1 ≤ 1000000001) ∧ r.length + (o' ++ [x]).length ≤ 100 ∧ Below base w w3 ∧ r.length ≤ r.length := by
  obtain ⟨g1, g2, ⟨cur, g3⟩, g4, g5, g6⟩ := G
  have hx := hnu x (by simp)
  have hKg : K ≠ g := Apart_type g1 g3 (by decide)
  have hblk : ∀ j, j ≠ K → w3.heap[j]? = w2.heap[j]? := fun j hj => by
    rw [hw3, Below.heap_setCell _ _ _ _ (by exact hj), Below.heap_setCell _ _ _ _ (by exact hj), Below.heap_setCell _ _ _ _ (by exact hj)]
  have hsz : w3.heap.size = w2.heap.size := by rw [hw3]; simp
  have k3 : Blk w3 K #[.int .i64 (next' + 1), H, .slice a' (o'.length + 1) c'] 219 := by rw [hw3]; exact ((g1.set 2 _).set 1 _).set 0 _
  have hm : r.length = m - 1 := by omega
  have hol : (o' ++ [x]).length = o'.length + 1 := by simp
  have hsl : Sls w3 (.slice (some ⟨g, off + 7, none⟩) r.length (c - 1)) r := by
    obtain ⟨hl, ⟨h0, b, cc, hv⟩ | ⟨b, of2, c3, hv, hb, hc⟩⟩ := g2.tail
    · exact ⟨hl, .inl ⟨h0, b, cc, hv⟩⟩
    · cases hv
      exact ⟨hl, .inr ⟨g, off + 7, c - 1, rfl, by rw [hsz]; exact hb, fun j u hj => (World.cell?_of_block (hblk g (Ne.symm hKg))).trans (hc j u hj)⟩⟩
  have hrow : w3.ownsRow base 91 7 (.slice a' (o'.length + 1) c') (o' ++ [x]).length (skCells (o' ++ [x])) := by
    rw [hol, skCells_append, skCells_one]
    refine owns_same g4 fun j hj => hblk j (fun e => ?_)
    obtain ⟨_, cu, h3⟩ := owns_blk g4 hj
    exact Apart_type g1 h3 (by decide) e.symm
  refine ⟨?_, by rw [← HL]; simp only [letF, if_pos hxn], fun y hy => hnu y (by simp [hy]), by omega, by simp at hle ⊢; omega, by rw [hw3]; exact ((g6.setCell (by exact hbK) _).setCell (by exact hbK) _).setCell (by exact hbK) _, Nat.le_refl _⟩
  simp only [List.length_cons] at kc
  rcases hH with rfl | ⟨rfl, rfl⟩
  · refine ⟨some ⟨g, off + 7, none⟩, c - 1, .slice a' (o'.length + 1) c', by rw [hm]; exact k3, hsl, by omega, fun g' hg' => ?_, hrow, fun g' h1 h2 => ?_⟩
    · simp [Value.ownBlock] at hg'; subst hg'
      exact ⟨hbg, cur, (hblk g (Ne.symm hKg)).trans g3⟩
    · simp only [Value.ownBlock, Option.some.injEq] at h2; subst h2; exact g5 h1
  · have hr0 : r = [] := List.eq_nil_of_length_eq_zero (by omega)
    subst hr0
    refine ⟨some ⟨g, off, none⟩, 0, .slice a' (o'.length + 1) c', k3, ⟨rfl, .inl ⟨rfl, _, _, rfl⟩⟩, by simp, fun g' hg' => ?_, hrow, fun g' h1 h2 => ?_⟩
    · simp [Value.ownBlock] at hg'; subst hg'
      exact ⟨hbg, cur, (hblk g (Ne.symm hKg)).trans g3⟩
    · simp only [Value.ownBlock, Option.some.injEq] at h2; subst h2; exact g5 h1

set_option maxHeartbeats 2000000 in
set_option maxRecDepth 100000 in
theorem letOut_any (base K : Nat) (next : Int) (h o : List Sk) (w : World) (hk : Keep base K w next h o) (hbK : base ≤ K) (hnums : Nums h) (hn0 : 0 ≤ next ∧ next ≤ 1000000001) (hlen : h.length + o.length ≤ 100) :
    Calls Tryz.prog 172 #[.pointer (some ⟨K, 0, none⟩)] w fun e w' => e = .returned (.tuple #[]) ∧ Keep base K w' (letF next h o).1 (letF next h o).2.1 (letF next h o).2.2 ∧ Below base w w' := by
  obtain ⟨i0, hi, hz0, hz1, hz2⟩ := info_parts Tryz.infoSlot
  obtain ⟨R, hR⟩ : ∃ R, R = letF next h o := ⟨_, rfl⟩
  rw [← hR]
  go_enter Tryz.func172, Tryz.ntmps172
  go_wp2
  go_loopg [] h.length (fun gg wr => ∃ next' h' o', Hid (Keep base K wr next' h' o') ∧ Hid (letF next' h' o' = R) ∧ Nums h' ∧ (0 ≤ next' ∧ next' ≤ 1000000001) ∧ h'.length + o'.length ≤ 100 ∧ Hid (Below base w wr) ∧ h'.length ≤ gg)
  case atStart => exact ⟨next, h, o, hk, hR.symm, hnums, hn0, hlen, Below.refl _ _, Nat.le_refl _⟩
  case round =>
    obtain ⟨next', h', o', HK, HL, hnu, hne, hle, HB, hgg⟩ := hrel
    obtain ⟨a, c, ov, kK, kS, kc, kB, kO, kA⟩ := HK.out
    obtain ⟨d0, d1, d2⟩ := kK.three
    have hKw := kK.lt
    cases h' with
    | nil =>
      simp only [List.length_nil] at d1
      have hd : decide ((0 : Int) < 0) = false := rfl
      clear kK kS kc kB kO kA hk hR
      go_wp2
      go_quiet (fail)
      go_wp2
      go_end0
      rw [← HL.out]
      exact ⟨rfl, HK.out.drewN nq, HB.out.trans (below_drewN (Below.refl _ _) nq)⟩
    | cons x r =>
      obtain ⟨g, off, rfl, hgl, hat⟩ := kS.cons
      obtain ⟨c0, c1, c2, c3, c4, c5, c6⟩ := hat
      obtain ⟨m, hm⟩ : ∃ m, m = (x :: r).length := ⟨_, rfl⟩
      have HM : Hid (m = (x :: r).length) := hm
      rw [← hm] at d1
      have hm1 : (0 : Int) < (m : Int) := by simp at hm; omega
      have hm3 : 0 < m := by omega
      have hm2 : decide (0 < m) = true := decide_eq_true hm3
      by_cases hxn : x.n = next'
      · clear hk hR hm
        go_wp2
        go_quiet (fail)
        obtain ⟨W, hW⟩ : ∃ W, W = wr.drewN nq := ⟨_, rfl⟩
        have HKW : Hid (Keep base K W next' (x :: r) o') := by show Keep _ _ _ _ _ _; rw [hW]; exact HK.out.drewN nq
        have HBW : Hid (Below base w W) := by show Below _ _ _; rw [hW]; exact HB.out.trans (below_drewN (Below.refl _ _) nq)
        rw [← hW]
        have HXN : Hid (x.n = next') := hxn
        clear hxn hW HK HB kK kS kB kO kA kc d0 d1 d2 c0 c1 c2 c3 c4 c5 c6 hgl hKw hm1 hm2 hm3 HM
        obtain ⟨a2, c, ov, kK, kS, kc, kB, kO, kA⟩ := HKW.out
        obtain ⟨d0, d1, d2⟩ := kK.three
        have hKw := kK.lt
        obtain ⟨g, off, rfl, hgl, hat⟩ := kS.cons
        obtain ⟨c0, c1, c2, c3, c4, c5, c6⟩ := hat
        obtain ⟨m, hm⟩ : ∃ m, m = (x :: r).length := ⟨_, rfl⟩
        have HM : Hid (m = (x :: r).length) := hm
        rw [← hm] at d1
        have hm1 : (0 : Int) < (m : Int) := by simp at hm; omega
        have hm3 : 0 < m := by omega
        obtain ⟨hbg, curg, kg⟩ := kB g rfl
        have hxr : Hid (r.length + 1 = m) := by show r.length + 1 = m; rw [hm]; simp
        clear hm
        have own1 : Hid ((W.alloc (.cells #[.int .i64 x.n, .int .i64 x.p.seq, .int .i64 x.p.time, .bool x.p.f, .bool x.p.e, .bool x.p.k, .string x.p.t] 91)).drew.ownsRow base 91 7 ov o'.length (skCells o')) := kO.alloc _
        have new1 : Hid (∀ j u, x.cells.toList[j]? = some u → (W.alloc (.cells #[.int .i64 x.n, .int .i64 x.p.seq, .int .i64 x.p.time, .bool x.p.f, .bool x.p.e, .bool x.p.k, .string x.p.t] 91)).drew.cell? ((⟨W.heap.size, 0, none⟩ : Addr).add j) = some u) := newSlot rfl
        have hbW : Hid (base ≤ (W.alloc (.cells #[.int .i64 x.n, .int .i64 x.p.seq, .int .i64 x.p.time, .bool x.p.f, .bool x.p.e, .bool x.p.k, .string x.p.t] 91)).drew.heap.size) := by show base ≤ (W.alloc _).heap.size; have := HBW.out.size; simp; omega
        have aft : Hid (∀ v' w2, w2.ownsRow base 91 7 v' (o'.length + 1) (skCells o' ++ x.cells.toList) → (W.alloc (.cells #[.int .i64 x.n, .int .i64 x.p.seq, .int .i64 x.p.time, .bool x.p.f, .bool x.p.e, .bool x.p.k, .string x.p.t] 91)).drew.grownBy w2 ov.ownBlock →
            (v'.ownBlock = ov.ownBlock ∨ ∀ g, v'.ownBlock = some g → (W.alloc (.cells #[.int .i64 x.n, .int .i64 x.p.seq, .int .i64 x.p.time, .bool x.p.f, .bool x.p.e, .bool x.p.k, .string x.p.t] 91)).drew.heap.size ≤ g) →
            ∃ a' c', v' = .slice a' (o'.length + 1) c' ∧ w2.cell? ⟨K, 0, none⟩ = some (.int .i64 next') ∧ w2.cell? ⟨K, 1, none⟩ = some (.slice (some ⟨g, off, none⟩) m c) ∧ w2.cell? ⟨K, 2, none⟩ = some ov ∧ (∀ j, w2.frozen? ⟨K, j, none⟩ = false) ∧ 
              Hid (Blk w2 K #[.int .i64 next', .slice (some ⟨g, off, none⟩) m c, ov] 219 ∧ Sls w2 (.slice (some ⟨g, off, none⟩) (x :: r).length c) (x :: r) ∧ (∃ cur, Blk w2 g cur 91) ∧ w2.ownsRow base 91 7 (.slice a' (o'.length + 1) c') (o'.length + 1) (skCells o' ++ x.cells.toList) ∧
                (Value.slice a' (o'.length + 1) c').ownBlock ≠ some g ∧ Below base w w2)) := by
          intro v' w2 ho2 hg2 hd2
          obtain ⟨a', c', rfl⟩ := Sl.len (Sl.of_owns ho2)
          have hKo : some K ≠ ov.ownBlock := fun e => by
            obtain ⟨_, cur, h3⟩ := owns_blk kO e.symm
            exact Apart_type kK h3 (by decide) rfl
          have hgo : some g ≠ ov.ownBlock := fun e => kA g e.symm rfl
          have k2 : Blk w2 K #[.int .i64 next', .slice (some ⟨g, off, none⟩) m c, ov] 219 := (hg2.block K (by show K < (W.alloc _).heap.size; simp; omega) hKo).trans (by have := kK.alloc (.cells #[.int .i64 x.n, .int .i64 x.p.seq, .int .i64 x.p.time, .bool x.p.f, .bool x.p.e, .bool x.p.k, .string x.p.t] 91); rw [HM.out]; exact this)
          have hbg2 : w2.heap[g]? = W.heap[g]? := (hg2.block g (by show g < (W.alloc _).heap.size; simp; omega) hgo).trans (Below.heap_alloc W _ g hgl)
          obtain ⟨e0, e1, e2⟩ := k2.three
          refine ⟨a', c', rfl, e0, e1, e2, k2.free, k2, ?_, ⟨curg, hbg2.trans kg⟩, ho2, ?_, ?_⟩
          · obtain ⟨hl, ⟨h0, _⟩ | ⟨b, of2, c3, hv, hb, hc⟩⟩ := kS
            · simp at h0
            · cases hv
              exact ⟨hl, .inr ⟨g, off, c, rfl, by have := hg2.size; simp at this; omega, fun j u hj => (World.cell?_of_block hbg2).trans (hc j u hj)⟩⟩
          · intro e
            rcases hd2 with hd2 | hd2
            · exact hgo (e.symm.trans hd2)
            · have := hd2 g e
              simp at this; omega
          · exact ((HBW.out.alloc (by have := HBW.out.size; omega) _).drew).grown hg2 (by show base ≤ (W.alloc _).heap.size; have := HBW.out.size; simp; omega) (fun j hj => (kO.lt j hj).1)
        go_wp2
        go_region_law (refine step_append_own2 rfl (.tmp 29) (.tmp 37) 55 rfl base 91 i0 _ 7 48 Tryz.underlying55 hi hz0 hz1 hz2 rfl (by decide) ov o'.length (skCells o') (by simp [Act.eval]) own1.out ⟨W.heap.size, 0, none⟩ 1 1 x.cells.toList (by simp [Act.eval]) rfl new1.out (oneSlot x) (by unfold maxLen; omega) (by omega) hbW.out ?_; intro v' w2 ho2 hg2 hd2; obtain ⟨a', c', hv', g0, g1, g2, gf, G⟩ := aft.out v' w2 ho2 hg2 hd2; clear ho2 hg2 hd2; subst hv')
        all_goals clear own1 new1 hbW aft kK kS kB kO kA kg HKW HBW d0 d1 d2 c0 c1 c2 c3 c4 c5 c6
        all_goals
          have fin : ∀ (H : Value) (w3 : World), Hid (H = .slice (some ⟨g, off + 7, none⟩) (m - 1) (c - 1) ∨ H = .slice (some ⟨g, off, none⟩) 0 0 ∧ c = 1) → Hid (w3 = ((w2.setCell ⟨K, 2, none⟩ (.slice a' (o'.length + 1) c')).setCell ⟨K, 1, none⟩ H).setCell ⟨K, 0, none⟩ (.int .i64 (next' + 1))) →
              Hid (Keep base K w3 (next' + 1) r (o' ++ [x])) ∧ Hid (letF (next' + 1) r (o' ++ [x]) = R) ∧ Nums r ∧ (0 ≤ next' + 1 ∧ next' + 1 ≤ 1000000001) ∧ r.length + (o' ++ [x]).length ≤ 100 ∧ Hid (Below base w w3) ∧ r.length ≤ r.length :=
            letOut_more hbK hbg hnu hne hle HL.out HXN.out hxr.out kc G.out
          have FIN := @id (Hid _) fin
          obtain ⟨hne1, hne2⟩ := hne
          clear fin G HL HXN hnu
          by_cases hc1 : c = 1
          · have hm1' : m = 1 := by have := hxr.out; simp at kc; omega
            subst hc1 hm1'
            go_wp2
            go_roundg r.length
            case measure => simp at hgg; omega
            case rel => exact ⟨_, _, _, FIN.out _ _ (.inr ⟨rfl, trivial⟩) rfl⟩
          · have hmi : (1 : Int) ≤ (m : Int) := by omega
            go_wp2
            go_roundg r.length
            case measure => simp at hgg; omega
            case rel => exact ⟨_, _, _, FIN.out _ _ (.inl rfl) rfl⟩
      · clear kK kS kc kB kO kA hk hR hm
        go_wp2
        go_quiet (fail)
        go_wp2
        go_end0
        have hL := HL.out
        simp only [letF, if_neg hxn] at hL
        rw [← hL]
        exact ⟨rfl, HK.out.drewN nq, HB.out.trans (below_drewN (Below.refl _ _) nq)⟩

end Go.Proofs.YtnpaejknoipicafGreat
