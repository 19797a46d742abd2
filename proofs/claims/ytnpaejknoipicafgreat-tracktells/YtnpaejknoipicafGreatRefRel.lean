/-
  Contracts: the document's released and FlushOf.
-/
import Derived.Test.YtnpaejknoipicafGreatRefBuf
import Derived.Test.YtnpaejknoipicafGreatBufPut
import Derived.Test.YtnpaejknoipicafGreatCopyMany
import Derived.Deep.Cut
namespace Go.Proofs.YtnpaejknoipicafGreat
open Go.RowKit

/-- what a round of released leaves -/
def Rel (V : Option Nat) (base B : Nat) (wr : World) (next : Int) (h o : List Sk) (ov : Value) : Prop :=
  ∃ a c, Blk wr B #[.int .i64 next, .slice a h.length c] 57 ∧ Blk wr (B + 1) #[.int .i64 0, .slice none 0 0] 57 ∧ Sls wr (.slice a h.length c) h ∧ h.length ≤ c ∧ wr.ownsRow base 91 7 ov o.length (skCells o) ∧ Apart ov (.slice a h.length c) ∧
    (0 < h.length → ∀ g, (Value.slice a h.length c).ownBlock = some g → V = some g ∧ g < B ∨ base ≤ g)
theorem Sls.same {w w' : World} {v : Value} {l : List Sk} (h : Sls w v l) (hs : w.heap.size ≤ w'.heap.size) (hb : 0 < l.length → ∀ g, v.ownBlock = some g → w'.heap[g]? = w.heap[g]?) : Sls w' v l := by
  obtain ⟨hl, h | ⟨b, off, c, rfl, hlt, hc⟩⟩ := h
  · exact ⟨hl, .inl h⟩
  · by_cases h0 : 0 < l.length
    · exact ⟨hl, .inr ⟨b, off, c, rfl, by omega, fun j u hj => (World.cell?_of_block (hb h0 b rfl)).trans (hc j u hj)⟩⟩
    · have : l = [] := List.eq_nil_of_length_eq_zero (by omega)
      subst this
      exact ⟨hl, .inl ⟨rfl, _, _, rfl⟩⟩
theorem Rel.heap {V : Option Nat} {base B : Nat} {w w' : World} {next : Int} {h o : List Sk} {ov : Value} (hk : Rel V base B w next h o ov) (e : w'.heap = w.heap) : Rel V base B w' next h o ov := by
  obtain ⟨a, c, k1, k2, kS, kc, kO, kA, kD⟩ := hk
  have eb : ∀ {g : Nat} {C : Array Value} {t : TypeId}, Blk w g C t → Blk w' g C t := fun h => by unfold Blk at h ⊢; rw [e]; exact h
  exact ⟨a, c, eb k1, eb k2, kS.same (by rw [e]; exact Nat.le_refl _) (fun _ g _ => by rw [e]), kc, owns_same kO (fun g _ => by rw [e]), kA, kD⟩
theorem Rel.next {V : Option Nat} {base B : Nat} {w : World} {next n' : Int} {h o : List Sk} {ov : Value} (hk : Rel V base B w next h o ov) (hB : B + 1 < base) : Rel V base B (w.setCell ⟨B, 0, none⟩ (.int .i64 n')) n' h o ov := by
  obtain ⟨a, c, k1, k2, kS, kc, kO, kA, kD⟩ := hk
  have hblk : ∀ j, j ≠ B → (w.setCell ⟨B, 0, none⟩ (.int .i64 n')).heap[j]? = w.heap[j]? := fun j hj => Below.heap_setCell _ _ _ _ (by exact hj)
  exact ⟨a, c, k1.set 0 _, (hblk (B + 1) (by omega)).trans k2, kS.same (by simp) (fun h0 g hg => hblk g (by rcases kD h0 g hg with ⟨_, h⟩ | h <;> omega)), kc, owns_same kO (fun g hg => hblk g (by have := (kO.lt g hg).1; omega)), kA, kD⟩

/-- behind 'out = append(out, b.Held[0])' -/
theorem Rel.out {V : Option Nat} {base B : Nat} {w w2 : World} {next : Int} {x : Sk} {r o : List Sk} {ov v' : Value} {obj : Obj} (hk : Rel V base B w next (x :: r) o ov) (hB : B + 1 < base)
    (ho : w2.ownsRow base 91 7 v' (o.length + 1) (skCells o ++ x.cells.toList)) (hg : (w.alloc obj).grownBy w2 ov.ownBlock) (hd : v'.ownBlock = ov.ownBlock ∨ ∀ g, v'.ownBlock = some g → (w.alloc obj).heap.size ≤ g) :
    Rel V base B w2 next (x :: r) (o ++ [x]) v' := by
  obtain ⟨a, c, k1, k2, kS, kc, kO, kA, kD⟩ := hk
  have hblk : ∀ j, j < w.heap.size → some j ≠ ov.ownBlock → w2.heap[j]? = w.heap[j]? := fun j hj hne => (hg.block j (by simp; omega) hne).trans (Below.heap_alloc w obj j hj)
  have hlow : ∀ j, j < base → some j ≠ ov.ownBlock := fun j hj e => by have := (kO.lt j e.symm).1; omega
  obtain ⟨b, off, ha, hb, _⟩ := kS.cons
  subst ha
  refine ⟨some ⟨b, off, none⟩, c, (hblk B k1.lt (hlow B (by omega))).trans k1, (hblk (B + 1) k2.lt (hlow (B + 1) hB)).trans k2, kS.same (by have := hg.size; simp at this; omega) (fun _ g hgg => ?_), kc, ?_, ?_, kD⟩
  · simp only [Value.ownBlock, Option.some.injEq] at hgg
    subst hgg
    exact hblk b hb (fun e => kA b e.symm rfl)
  · rw [List.length_append, skCells_append, skCells_one]; exact ho
  · intro g h1 h2
    simp only [Value.ownBlock, Option.some.injEq] at h2
    subst h2
    rcases hd with hd | hd
    · exact kA b (hd ▸ h1) rfl
    · have := hd b h1
      simp at this; omega

/-- behind 'b = api.Buffer{Next: b.Next + 1, Held: append([]api.Slot{}, b.Held[1:]...)}' -/
theorem Rel.step {V : Option Nat} {base B : Nat} {w w2 w3 : World} {next : Int} {x : Sk} {r o : List Sk} {ov v' : Value} {obj : Obj} {a' : Option Addr} {c' : Nat} (hk : Rel V base B w next (x :: r) o ov) (hB : B + 1 < base) (hbw : base ≤ w.heap.size)
    (hv' : v' = .slice a' r.length c') (ho : w2.ownsRow w.heap.size 91 7 v' r.length (skCells r)) (hg : (w.alloc obj).grownBy w2 (some w.heap.size)) (hw3 : w3 = (w2.setCell ⟨B, 0, none⟩ (.int .i64 (next + 1))).setCell ⟨B, 1, none⟩ v') :
    Rel V base B w3 (next + 1) r o ov := by
  obtain ⟨a, c, k1, k2, kS, kc, kO, kA, kD⟩ := hk
  have hblk : ∀ j, j < w.heap.size → w2.heap[j]? = w.heap[j]? := fun j hj => (hg.block j (by simp; omega) (by simp; omega)).trans (Below.heap_alloc w obj j hj)
  have hblk3 : ∀ j, j ≠ B → w3.heap[j]? = w2.heap[j]? := fun j hj => by rw [hw3, Below.heap_setCell _ _ _ _ (by exact hj), Below.heap_setCell _ _ _ _ (by exact hj)]
  have hB1 := k1.lt
  have hB2 := k2.lt
  have k12 : Blk w2 B _ _ := (hblk B hB1).trans k1
  have e : r.length = r.length := rfl
  refine ⟨a', c', ?_, (hblk3 (B + 1) (by omega)).trans ((hblk (B + 1) hB2).trans k2), ?_, ?_, owns_same kO (fun g hgg => ?_), ?_, ?_⟩
  · rw [hw3, hv']; exact (k12.set 0 _).set 1 _
  · rw [← hv']
    exact Sls.same (Sls.of_owns ho) (by rw [hw3]; simp) (fun _ g hgg => hblk3 g (by have := (ho.lt g hgg).1; omega))
  · obtain ⟨_, ⟨h1, h2⟩ | ⟨g, cap, cur, h1, _, _, h2, _⟩⟩ := ho
    · omega
    · rw [hv'] at h1; injection h1 with _ _ h3; omega
  · have := kO.lt g hgg
    exact (hblk3 g (by omega)).trans (hblk g this.2)
  · intro g h1 h2
    rw [← hv'] at h2
    have h3 := (ho.lt g h2).1
    have h4 := (kO.lt g h1).2
    omega
  · intro _ g hgg
    rw [← hv'] at hgg
    have := (ho.lt g hgg).1
    omega

set_option maxHeartbeats 2000000 in
set_option maxRecDepth 100000 in
theorem released_any (most : Nat) (next : Int) (v : Value) (l : List Sk) (w : World) (hv : Sls w v l) (hcap : ∀ a n c, v = .slice a n c → n ≤ c) (hnums : Nums l) (hn0 : 0 ≤ next ∧ next ≤ 1000000001) (hlen : l.length ≤ 50) :
    Calls Tryz.prog 119 #[.agg #[.int .i64 next, v], .int .i64 most] w fun e w' => ∃ hv' ov', e = .returned (.tuple #[.agg #[.int .i64 (relF most next l []).1, hv'], ov']) ∧
      Sls w' hv' (relF most next l []).2.1 ∧ Sls w' ov' (relF most next l []).2.2 ∧ Below w.heap.size w w' ∧ (0 < (relF most next l []).2.1.length → ∀ g, hv'.ownBlock = some g → v.ownBlock = some g ∨ w.heap.size ≤ g) ∧ (∀ g, ov'.ownBlock = some g → w.heap.size ≤ g) := by
  obtain ⟨v0, hv0⟩ : ∃ v0, v0 = v.ownBlock := ⟨_, rfl⟩
  rw [← hv0]
  obtain ⟨i0, hi, hz0, hz1, hz2⟩ := info_parts Tryz.infoSlot
  obtain ⟨R, hR⟩ : ∃ R, R = relF most next l [] := ⟨_, rfl⟩
  rw [← hR]
  obtain ⟨a0, c0, hva⟩ := hv.len
  have hcap0 := hcap _ _ _ hva
  clear hcap
  subst hva
  have HR : Hid (relF most next l [] = R) := hR.symm
  have HS : Hid (∀ w' : World, Blk w' w.heap.size #[.int .i64 next, .slice a0 l.length c0] 57 → Blk w' (w.heap.size + 1) #[.int .i64 0, .slice none 0 0] 57 → Below w.heap.size w w' → Rel v0 (w.heap.size + 1 + 1) w.heap.size w' next l [] (.slice none 0 0)) := fun w' h1 h2 h3 => by
    refine ⟨a0, c0, h1, h2, hv.below h3, hcap0, World.ownsRow_nil _ _ _ _, Apart.nil _, fun h0 g hg => ?_⟩
    obtain ⟨_, ⟨hl, _⟩ | ⟨b, off, c, hvv, hb, _⟩⟩ := hv
    · omega
    · injection hvv with e1 e2 e3
      rw [e1] at hg
      left
      refine ⟨by rw [hv0, e1]; exact hg, ?_⟩
      simp only [Value.ownBlock, Option.some.injEq] at hg
      omega
  obtain ⟨n0, hn00⟩ : ∃ n, n = l.length := ⟨_, rfl⟩
  rw [← hn00] at HS ⊢
  have HN0 : Hid (n0 = l.length) := hn00
  clear hv hR hcap0 hn00 hv0
  go_enter Tryz.func119, Tryz.ntmps119
  go_wp2
  go_loopg [6] n0 (fun gg ov wr => ∃ next' h' o', Hid (Rel v0 (w.heap.size + 1 + 1) w.heap.size wr next' h' o' ov) ∧
      Hid (relF most next' h' o' = R) ∧ Nums h' ∧ (0 ≤ next' ∧ next' ≤ 1000000001) ∧ h'.length + o'.length ≤ 50 ∧ Hid (Below w.heap.size w wr) ∧ h'.length ≤ gg)
  case atStart =>
    refine ⟨next, l, [], HS.out _ ((Blk.new w _ _).alloc _) ?_ (((Below.refl _ w).alloc (Nat.le_refl _) _).alloc (by simp) _), HR, hnums, hn0, by simpa using hlen, ((Below.refl _ w).alloc (Nat.le_refl _) _).alloc (by simp) _, by rw [HN0.out]; exact Nat.le_refl _⟩
    have := Blk.new (w.alloc (.cells #[.int .i64 next, .slice a0 n0 c0] 57)) #[.int .i64 0, .slice none 0 0] 57
    simp only [World.size_alloc] at this
    exact this
  case round =>
    obtain ⟨next', h', o', RE, RL, hnu, hne, hle, HB, hgg⟩ := hrel
    obtain ⟨a, c, kB, kR, kS, kc, kO, kA, kD⟩ := RE.out
    obtain ⟨d0, d1⟩ := kB.two
    have hf0 := kB.free 0
    have hsz : w.heap.size + 1 < wr.heap.size := kR.lt
    obtain ⟨r0, r1⟩ := kR.two
    have rf := kR.free
    have hfin : Hid (∀ w3 : World, (∃ q, w3 = ((wr.drewN q).setCell ⟨w.heap.size + 1, 0, none⟩ (.int .i64 next')).setCell ⟨w.heap.size + 1, 1, none⟩ (.slice a h'.length c)) → Hid (R = (next', h', o')) → Sls w3 (.slice a h'.length c) R.2.1 ∧ Sls w3 u6 R.2.2 ∧ Below w.heap.size w w3 ∧ (0 < R.2.1.length → ∀ g, (Value.slice a h'.length c).ownBlock = some g → v0 = some g ∨ w.heap.size ≤ g) ∧ (∀ g, u6.ownBlock = some g → w.heap.size ≤ g)) := fun w3 hw3 hR => by
      obtain ⟨q, hw3⟩ := hw3
      have hblk : ∀ j, j ≠ w.heap.size + 1 → w3.heap[j]? = wr.heap[j]? := fun j hj => by rw [hw3, Below.heap_setCell _ _ _ _ (by exact hj), Below.heap_setCell _ _ _ _ (by exact hj)]; rfl
      have hs3 : w3.heap.size = wr.heap.size := by rw [hw3]; simp
      rw [hR.out]
      refine ⟨kS.same (by omega) (fun h0 g hg => hblk g (by rcases kD h0 g hg with ⟨_, h⟩ | h <;> omega)), (Sls.of_owns kO).same (by omega) (fun _ g hg => hblk g (by have := (kO.lt g hg).1; omega)), ?_, fun h0 g hg => ?_, fun g hg => by have := (kO.lt g hg).1; omega⟩
      · rw [hw3]
        exact ((below_drewN HB.out q).setCell (by simp) _).setCell (by simp) _
      · rcases kD h0 g hg with ⟨h, _⟩ | h
        · exact .inl h
        · right; omega
    cases h' with
    | nil =>
      simp only [List.length_nil] at d1
      clear kB kR kS kc kO kA kD
      have HRR : Hid (R = (next', [], o')) := RL.out.symm
      clear RL
      go_wp2
      refine bodyPost_ret (v := .tuple #[.agg #[.int .i64 R.1, .slice a 0 c], u6]) (by have hR1 := congrArg Prod.fst HRR.out; simp only at hR1; simp [results, Tryz.results119, go_sem, r0, r1, hR1]) rfl ⟨_, _, rfl, hfin.out _ ⟨0, rfl⟩ HRR.out⟩
    | cons x r =>
      obtain ⟨g, off, rfl, hgl, hat⟩ := kS.cons
      obtain ⟨c0, c1, c2, c3, c4, c5, c6⟩ := hat
      obtain ⟨m, hm⟩ : ∃ m, m = (x :: r).length := ⟨_, rfl⟩
      have HM : Hid (m = (x :: r).length) := hm
      rw [← hm] at d1
      have hm1 : (0 : Int) < (m : Int) := by simp at hm; omega
      have hrm : Hid (m = r.length + 1) := hm
      clear kB kR kS kc kO kA kD hm
      by_cases hxn : x.n = next'
      · have HXN : Hid (x.n = next') := hxn
        have hq : (x.n != next') = false := by simpa using hxn
        have RL2 : Hid (relF most (x.n + 1) r (o' ++ [x]) = R) := by
          show _ = R
          rw [← RL.out]
          conv => rhs; unfold relF
          rw [if_pos HXN.out, HXN.out]
        clear hxn
        go_wp2
        go_quiet (fail)
        obtain ⟨W, hW⟩ : ∃ W, W = wr.drewN nq := ⟨_, rfl⟩
        have RW : Hid (Rel v0 (w.heap.size + 1 + 1) w.heap.size W x.n (x :: r) o' u6) := by show Rel _ _ _ _ _ _ _ _; rw [hW]; rw [HXN.out]; exact RE.out.heap rfl
        have BW : Hid (Below w.heap.size w W) := by show Below _ _ _; rw [hW]; exact below_drewN HB.out nq
        clear hfin d0 d1 c0 c1 c2 c3 c4 c5 c6 r0 r1 rf hf0 hsz
        rw [← hW]
        clear hW
        obtain ⟨a, c, kB, kR, kS, kc, kO, kA, kD⟩ := RW.out
        obtain ⟨d0, d1⟩ := kB.two
        obtain ⟨g, off, rfl, hgl, hat⟩ := kS.cons
        obtain ⟨c0, c1, c2, c3, c4, c5, c6⟩ := hat
        have hsz : w.heap.size + 1 < W.heap.size := kR.lt
        obtain ⟨m, hm⟩ : ∃ m, m = (x :: r).length := ⟨_, rfl⟩
        have HM : Hid (m = (x :: r).length) := hm
        rw [← hm] at d1
        have hm1 : (0 : Int) < (m : Int) := by simp at hm; omega
        have KO : Hid (W.ownsRow (w.heap.size + 1 + 1) 91 7 u6 o'.length (skCells o')) := kO
        clear kB kR kS kc kO kA kD hm
        have own1 : Hid ((W.alloc (.cells #[.int .i64 x.n, .int .i64 x.p.seq, .int .i64 x.p.time, .bool x.p.f, .bool x.p.e, .bool x.p.k, .string x.p.t] 91)).ownsRow (w.heap.size + 1 + 1) 91 7 u6 o'.length (skCells o')) := KO.out.alloc _
        have new1 : Hid (∀ j u, x.cells.toList[j]? = some u → (W.alloc (.cells #[.int .i64 x.n, .int .i64 x.p.seq, .int .i64 x.p.time, .bool x.p.f, .bool x.p.e, .bool x.p.k, .string x.p.t] 91)).cell? ((⟨W.heap.size, 0, none⟩ : Addr).add j) = some u) := newSlot rfl
        have l1 : Hid (o'.length + 1 ≤ maxLen) := by show _ ≤ _; unfold maxLen; simp at hle; omega
        have l2 : Hid ((o'.length + 1) * 48 ≤ 140737488355328) := by show _ ≤ _; simp at hle; omega
        have l3 : Hid (w.heap.size + 1 + 1 ≤ (W.alloc (.cells #[.int .i64 x.n, .int .i64 x.p.seq, .int .i64 x.p.time, .bool x.p.f, .bool x.p.e, .bool x.p.k, .string x.p.t] 91)).heap.size) := by show _ ≤ _; simp; omega
        have aft : Hid (∀ v' w2, w2.ownsRow (w.heap.size + 1 + 1) 91 7 v' (o'.length + 1) (skCells o' ++ x.cells.toList) → (W.alloc (.cells #[.int .i64 x.n, .int .i64 x.p.seq, .int .i64 x.p.time, .bool x.p.f, .bool x.p.e, .bool x.p.k, .string x.p.t] 91)).grownBy w2 u6.ownBlock → (v'.ownBlock = u6.ownBlock ∨ ∀ g, v'.ownBlock = some g → (W.alloc (.cells #[.int .i64 x.n, .int .i64 x.p.seq, .int .i64 x.p.time, .bool x.p.f, .bool x.p.e, .bool x.p.k, .string x.p.t] 91)).heap.size ≤ g) →
            Hid (Rel v0 (w.heap.size + 1 + 1) w.heap.size w2 x.n (x :: r) (o' ++ [x]) v') ∧ Hid (Below w.heap.size w w2) ∧ Hid (W.heap.size + 1 ≤ w2.heap.size)) := fun v' w2 ho2 hg2 hd2 =>
          ⟨RW.out.out (by omega) ho2 hg2 hd2, (BW.out.alloc BW.out.size _).grown hg2 (by have := BW.out.size; simp; omega) (fun j hj => by have := (KO.out.lt j hj).1; omega), by have := hg2.size; show W.heap.size + 1 ≤ _; simpa using this⟩
        go_wp2_with (at_builtin; refine wpList_append_own2 _ rfl _ _ 55 rfl (w.heap.size + 1 + 1) 91 i0 _ 7 48 Tryz.underlying55 hi hz0 hz1 hz2 rfl (by decide) _ o'.length (skCells o') rfl own1.out ⟨W.heap.size, 0, none⟩ 1 1 x.cells.toList rfl rfl new1.out (oneSlot x) l1.out l2.out l3.out ?_; intro v' w2 ho2 hg2 hd2; obtain ⟨R2, B2, S2⟩ := aft.out v' w2 ho2 hg2 hd2; clear ho2 hg2 hd2)
        clear own1 new1 l1 l2 l3 aft d0 d1 c0 c1 c2 c3 c4 c5 c6 KO RW BW HM hm1 hgl
        obtain ⟨a2, c, kB, kR, kS, kc, kO, kA, kD⟩ := R2.out
        obtain ⟨d0, d1⟩ := kB.two
        have hfB := kB.free
        obtain ⟨g, off, rfl, hgl, hat⟩ := kS.cons
        have hsz2 : w.heap.size + 1 < w2.heap.size := kR.lt
        obtain ⟨m, hm⟩ : ∃ m, m = (x :: r).length := ⟨_, rfl⟩
        have HM : Hid (m = r.length + 1) := hm
        rw [← hm] at d1
        have hm1 : (1 : Int) ≤ (m : Int) := by simp at hm; omega
        have KC : Hid (r.length + 1 ≤ c) := kc
        have KT : Hid (Sls w2 (.slice (some ⟨g, off + 7, none⟩) r.length (c - 1)) r) := kS.tail
        have hx := hnu x (by simp)
        obtain ⟨hx1, hx2⟩ := hx
        have own2 : Hid ((w2.alloc (.cells #[] 91)).drew.ownsRow w2.heap.size 91 7 (.slice (some ⟨w2.heap.size, 0, none⟩) 0 0) 0 []) := World.ownsRow_made w2 #[] 0 (Nat.le_refl _) (by unfold maxLen; omega) rfl
        have new2 : Hid (∀ j u, (skCells r)[j]? = some u → (w2.alloc (.cells #[] 91)).drew.cell? ((⟨g, off + 7, none⟩ : Addr).add j) = some u) := fun j u hj => by
          obtain ⟨hl, ⟨h0, b, cc, hv⟩ | ⟨b, of2, c3, hv, hb, hc⟩⟩ := KT.out
          · have : r = [] := List.eq_nil_of_length_eq_zero h0
            subst this
            simp [skCells] at hj
          · cases hv
            rw [Addr.add_lit]
            exact (World.cell?_alloc_past (w := w2) _ _ _ hb).trans (hc j u hj)
        have one2 : Hid (∀ u ∈ skCells r, u.oneCell' = true) := fun u hu => by
          obtain ⟨y, _, hy⟩ := List.mem_flatMap.1 hu
          exact oneSlot y u hy
        have q1 : Hid ((skCells r).length = (m - 1) * 7) := by show _ = _; rw [skCells_len, HM.out]; simp
        have q2 : Hid (0 + (m - 1) ≤ maxLen) := by show _ ≤ _; unfold maxLen; rw [HM.out]; simp at hle; omega
        have q3 : Hid ((0 + (m - 1)) * 48 ≤ 140737488355328) := by show _ ≤ _; rw [HM.out]; simp at hle; omega
        have q4 : Hid (w2.heap.size ≤ (w2.alloc (.cells #[] 91)).drew.heap.size) := by show _ ≤ (w2.alloc _).heap.size; simp
        have aft2 : Hid (∀ v3 w3, w3.ownsRow w2.heap.size 91 7 v3 (0 + (m - 1)) ([] ++ skCells r) → (w2.alloc (.cells #[] 91)).drew.grownBy w3 (Value.slice (some ⟨w2.heap.size, 0, none⟩) 0 0).ownBlock →
            ∃ a3 c3, v3 = .slice a3 r.length c3 ∧ w3.cell? ⟨w.heap.size, 0, none⟩ = some (.int .i64 x.n) ∧ w3.cell? ⟨w.heap.size, 1, none⟩ = some (.slice (some ⟨g, off, none⟩) m c) ∧ (∀ j, w3.frozen? ⟨w.heap.size, j, none⟩ = false) ∧
              Hid (∀ w4, Hid (w4 = (w3.setCell ⟨w.heap.size, 0, none⟩ (.int .i64 (x.n + 1))).setCell ⟨w.heap.size, 1, none⟩ (.slice a3 r.length c3)) → Rel v0 (w.heap.size + 1 + 1) w.heap.size w4 (x.n + 1) r (o' ++ [x]) v' ∧ Below w.heap.size w w4)) := fun v3 w3 ho3 hg3 => by
          have hml : 0 + (m - 1) = r.length := by have := HM.out; omega
          rw [hml, List.nil_append] at ho3
          obtain ⟨a3, c3, hv3⟩ := Sl.len (Sl.of_owns ho3)
          have hlt := kB.lt
          have kB3 : Blk w3 w.heap.size #[.int .i64 x.n, .slice (some ⟨g, off, none⟩) m c] 57 := (hg3.block w.heap.size (by show _ < (w2.alloc _).heap.size; simp; omega) (by simp [Value.ownBlock]; omega)).trans ((Below.heap_alloc w2 _ w.heap.size hlt).trans (by rw [hm]; exact kB))
          obtain ⟨e0, e1⟩ := kB3.two
          refine ⟨a3, c3, hv3, e0, e1, kB3.free, fun w4 hw4 => ⟨R2.out.step (by omega) (by omega) hv3 ho3 (obj := .cells #[] 91) ⟨hg3.os, hg3.tape, hg3.output, hg3.size, hg3.block⟩ (by rw [hw4.out, hv3]), ?_⟩⟩
          rw [hw4.out]
          have hb3 : Below w.heap.size w w3 := ((B2.out.alloc B2.out.size _).drew).grown hg3 (by have := B2.out.size; show _ ≤ (w2.alloc _).heap.size; simp; omega) (fun j hj => by simp only [Value.ownBlock, Option.some.injEq] at hj; have := B2.out.size; omega)
          exact (hb3.setCell (by simp) _).setCell (by simp) _
        have ltB : w.heap.size < w2.heap.size := by omega
        have hwr : IntKind.i64.wrap (x.n + 1) = x.n + 1 := by rw [IntKind.wrap_i64]; omega
        have hml2 : Hid (r.length + (o' ++ [x]).length ≤ 50) := by show _ ≤ _; simp at hle ⊢; omega
        have hnr : Nums r := fun y hy => hnu y (by simp [hy])
        clear kB kR kS kc kO kA kD hm hat RE HB R2 B2 S2 KT
        by_cases hc1 : c = 1
        · have hm2 : m = 1 := by have h1 := HM.out; have h2 := KC.out; omega
          have hr0 : r = [] := List.eq_nil_of_length_eq_zero (by have := HM.out; omega)
          subst hc1 hm2 hr0
          have new3 : Hid (∀ j u, (skCells ([] : List Sk))[j]? = some u → (w2.alloc (.cells #[] 91)).drew.cell? ((⟨g, off, none⟩ : Addr).add j) = some u) := fun j u hj => by simp [skCells] at hj
          go_region_law (refine step_append_own2 rfl (.tmp 40) (.tmp 43) 55 rfl w2.heap.size 91 i0 _ 7 48 Tryz.underlying55 hi hz0 hz1 hz2 rfl (by decide) (.slice (some ⟨w2.heap.size, 0, none⟩) 0 0) 0 [] (by simp [Act.eval, Act.put]) own2.out ⟨g, off, none⟩ 0 0 (skCells ([] : List Sk)) (by simp [Act.eval, Act.put]) rfl new3.out one2.out q2.out q3.out q4.out ?_; intro v3 w3 ho3 hg3 _; obtain ⟨a3, c3, hv3, g0, g1, gf, G⟩ := aft2.out v3 w3 ho3 hg3; clear ho3 hg3; subst hv3)
          all_goals
            clear own2 new2 new3 one2 q1 q2 q3 q4 aft2
            go_wp2
            go_roundg 0
            case measure => simp at hgg; omega
            case rel =>
              have GG := G.out _ rfl
              exact ⟨x.n + 1, [], o' ++ [x], GG.1, RL2, hnr, by omega, hml2.out, GG.2, Nat.le_refl _⟩
        · go_region_law (refine step_append_own2 rfl (.tmp 40) (.tmp 43) 55 rfl w2.heap.size 91 i0 _ 7 48 Tryz.underlying55 hi hz0 hz1 hz2 rfl (by decide) (.slice (some ⟨w2.heap.size, 0, none⟩) 0 0) 0 [] (by simp [Act.eval, Act.put]) own2.out ⟨g, off + 7, none⟩ (m - 1) (c - 1) (skCells r) (by simp [Act.eval, Act.put]) q1.out new2.out one2.out q2.out q3.out q4.out ?_; intro v3 w3 ho3 hg3 _; obtain ⟨a3, c3, hv3, g0, g1, gf, G⟩ := aft2.out v3 w3 ho3 hg3; clear ho3 hg3; subst hv3)
          all_goals
            clear own2 new2 one2 q1 q2 q3 q4 aft2
            go_wp2
            go_roundg r.length
            case measure => simp at hgg; omega
            case rel =>
              have GG := G.out _ rfl
              exact ⟨x.n + 1, r, o' ++ [x], GG.1, RL2, hnr, by omega, hml2.out, GG.2, Nat.le_refl _⟩
      · have HXN : Hid (¬ x.n = next') := hxn
        have hq : (x.n != next') = true := by simpa using hxn
        clear hxn
        by_cases hmo : m ≤ most
        · have HRR : Hid (R = (next', x :: r, o')) := by
            show R = _
            rw [← RL.out]
            simp only [relF, if_neg HXN.out]
            rw [if_pos (by have := hrm.out; omega)]
          have hmoi : (m : Int) ≤ (most : Int) := by omega
          rw [← HM.out] at hfin
          clear RL
          go_wp2
          go_quiet (fail)
          go_wp2
          refine bodyPost_ret (v := .tuple #[.agg #[.int .i64 R.1, .slice (some ⟨g, off, none⟩) m c], u6]) (by have hR1 := congrArg Prod.fst HRR.out; simp only at hR1; simp [results, Tryz.results119, go_sem, r0, r1, hR1]) rfl ⟨_, _, rfl, hfin.out _ ⟨nq, rfl⟩ HRR.out⟩
        · have hmoi : ¬ (m : Int) ≤ (most : Int) := by omega
          have RL2 : Hid (relF most (x.n + 1) r (o' ++ [x]) = R) := by
            show _ = R
            rw [← RL.out]
            simp only [relF, if_neg HXN.out]
            rw [if_neg (by have := hrm.out; omega)]
          go_wp2
          go_quiet (fail)
          go_upto_region 6 with fail
          obtain ⟨W, hW⟩ : ∃ W, W = (wr.drewN nq).setCell ⟨w.heap.size, 0, none⟩ (.int .i64 x.n) := ⟨_, rfl⟩
          have RW : Hid (Rel v0 (w.heap.size + 1 + 1) w.heap.size W x.n (x :: r) o' u6) := by show Rel _ _ _ _ _ _ _ _; rw [hW]; exact (RE.out.heap (w' := wr.drewN nq) rfl).next (by omega)
          have BW : Hid (Below w.heap.size w W) := by show Below _ _ _; rw [hW]; exact (below_drewN HB.out nq).setCell (by simp) _
          clear hfin d0 d1 c0 c1 c2 c3 c4 c5 c6 r0 r1 rf hf0 hsz
          rw [← hW]
          clear hW
          obtain ⟨a, c, kB, kR, kS, kc, kO, kA, kD⟩ := RW.out
          obtain ⟨d0, d1⟩ := kB.two
          obtain ⟨g, off, rfl, hgl, hat⟩ := kS.cons
          obtain ⟨c0, c1, c2, c3, c4, c5, c6⟩ := hat
          have hsz : w.heap.size + 1 < W.heap.size := kR.lt
          obtain ⟨m, hm⟩ : ∃ m, m = (x :: r).length := ⟨_, rfl⟩
          have HM : Hid (m = (x :: r).length) := hm
          rw [← hm] at d1
          have hm1 : (0 : Int) < (m : Int) := by simp at hm; omega
          have KO : Hid (W.ownsRow (w.heap.size + 1 + 1) 91 7 u6 o'.length (skCells o')) := kO
          clear kB kR kS kc kO kA kD hm
          have own1 : Hid ((W.alloc (.cells #[.int .i64 x.n, .int .i64 x.p.seq, .int .i64 x.p.time, .bool x.p.f, .bool x.p.e, .bool x.p.k, .string x.p.t] 91)).ownsRow (w.heap.size + 1 + 1) 91 7 u6 o'.length (skCells o')) := KO.out.alloc _
          have new1 : Hid (∀ j u, x.cells.toList[j]? = some u → (W.alloc (.cells #[.int .i64 x.n, .int .i64 x.p.seq, .int .i64 x.p.time, .bool x.p.f, .bool x.p.e, .bool x.p.k, .string x.p.t] 91)).cell? ((⟨W.heap.size, 0, none⟩ : Addr).add j) = some u) := newSlot rfl
          have l1 : Hid (o'.length + 1 ≤ maxLen) := by show _ ≤ _; unfold maxLen; simp at hle; omega
          have l2 : Hid ((o'.length + 1) * 48 ≤ 140737488355328) := by show _ ≤ _; simp at hle; omega
          have l3 : Hid (w.heap.size + 1 + 1 ≤ (W.alloc (.cells #[.int .i64 x.n, .int .i64 x.p.seq, .int .i64 x.p.time, .bool x.p.f, .bool x.p.e, .bool x.p.k, .string x.p.t] 91)).heap.size) := by show _ ≤ _; simp; omega
          have aft : Hid (∀ v' w2, w2.ownsRow (w.heap.size + 1 + 1) 91 7 v' (o'.length + 1) (skCells o' ++ x.cells.toList) → (W.alloc (.cells #[.int .i64 x.n, .int .i64 x.p.seq, .int .i64 x.p.time, .bool x.p.f, .bool x.p.e, .bool x.p.k, .string x.p.t] 91)).grownBy w2 u6.ownBlock → (v'.ownBlock = u6.ownBlock ∨ ∀ g, v'.ownBlock = some g → (W.alloc (.cells #[.int .i64 x.n, .int .i64 x.p.seq, .int .i64 x.p.time, .bool x.p.f, .bool x.p.e, .bool x.p.k, .string x.p.t] 91)).heap.size ≤ g) →
              Hid (Rel v0 (w.heap.size + 1 + 1) w.heap.size w2 x.n (x :: r) (o' ++ [x]) v') ∧ Hid (Below w.heap.size w w2) ∧ Hid (W.heap.size + 1 ≤ w2.heap.size)) := fun v' w2 ho2 hg2 hd2 =>
            ⟨RW.out.out (by omega) ho2 hg2 hd2, (BW.out.alloc BW.out.size _).grown hg2 (by have := BW.out.size; simp; omega) (fun j hj => by have := (KO.out.lt j hj).1; omega), by have := hg2.size; show W.heap.size + 1 ≤ _; simpa using this⟩
          go_wp2_with (at_builtin; refine wpList_append_own2 _ rfl _ _ 55 rfl (w.heap.size + 1 + 1) 91 i0 _ 7 48 Tryz.underlying55 hi hz0 hz1 hz2 rfl (by decide) _ o'.length (skCells o') rfl own1.out ⟨W.heap.size, 0, none⟩ 1 1 x.cells.toList rfl rfl new1.out (oneSlot x) l1.out l2.out l3.out ?_; intro v' w2 ho2 hg2 hd2; obtain ⟨R2, B2, S2⟩ := aft.out v' w2 ho2 hg2 hd2; clear ho2 hg2 hd2)
          clear own1 new1 l1 l2 l3 aft d0 d1 c0 c1 c2 c3 c4 c5 c6 KO RW BW HM hm1 hgl
          obtain ⟨a2, c, kB, kR, kS, kc, kO, kA, kD⟩ := R2.out
          obtain ⟨d0, d1⟩ := kB.two
          have hfB := kB.free
          obtain ⟨g, off, rfl, hgl, hat⟩ := kS.cons
          have hsz2 : w.heap.size + 1 < w2.heap.size := kR.lt
          obtain ⟨m, hm⟩ : ∃ m, m = (x :: r).length := ⟨_, rfl⟩
          have HM : Hid (m = r.length + 1) := hm
          rw [← hm] at d1
          have hm1 : (1 : Int) ≤ (m : Int) := by simp at hm; omega
          have KC : Hid (r.length + 1 ≤ c) := kc
          have KT : Hid (Sls w2 (.slice (some ⟨g, off + 7, none⟩) r.length (c - 1)) r) := kS.tail
          have hx := hnu x (by simp)
          obtain ⟨hx1, hx2⟩ := hx
          have own2 : Hid ((w2.alloc (.cells #[] 91)).drew.ownsRow w2.heap.size 91 7 (.slice (some ⟨w2.heap.size, 0, none⟩) 0 0) 0 []) := World.ownsRow_made w2 #[] 0 (Nat.le_refl _) (by unfold maxLen; omega) rfl
          have new2 : Hid (∀ j u, (skCells r)[j]? = some u → (w2.alloc (.cells #[] 91)).drew.cell? ((⟨g, off + 7, none⟩ : Addr).add j) = some u) := fun j u hj => by
            obtain ⟨hl, ⟨h0, b, cc, hv⟩ | ⟨b, of2, c3, hv, hb, hc⟩⟩ := KT.out
            · have : r = [] := List.eq_nil_of_length_eq_zero h0
              subst this
              simp [skCells] at hj
            · cases hv
              rw [Addr.add_lit]
              exact (World.cell?_alloc_past (w := w2) _ _ _ hb).trans (hc j u hj)
          have one2 : Hid (∀ u ∈ skCells r, u.oneCell' = true) := fun u hu => by
            obtain ⟨y, _, hy⟩ := List.mem_flatMap.1 hu
            exact oneSlot y u hy
          have q1 : Hid ((skCells r).length = (m - 1) * 7) := by show _ = _; rw [skCells_len, HM.out]; simp
          have q2 : Hid (0 + (m - 1) ≤ maxLen) := by show _ ≤ _; unfold maxLen; rw [HM.out]; simp at hle; omega
          have q3 : Hid ((0 + (m - 1)) * 48 ≤ 140737488355328) := by show _ ≤ _; rw [HM.out]; simp at hle; omega
          have q4 : Hid (w2.heap.size ≤ (w2.alloc (.cells #[] 91)).drew.heap.size) := by show _ ≤ (w2.alloc _).heap.size; simp
          have aft2 : Hid (∀ v3 w3, w3.ownsRow w2.heap.size 91 7 v3 (0 + (m - 1)) ([] ++ skCells r) → (w2.alloc (.cells #[] 91)).drew.grownBy w3 (Value.slice (some ⟨w2.heap.size, 0, none⟩) 0 0).ownBlock →
              ∃ a3 c3, v3 = .slice a3 r.length c3 ∧ w3.cell? ⟨w.heap.size, 0, none⟩ = some (.int .i64 x.n) ∧ w3.cell? ⟨w.heap.size, 1, none⟩ = some (.slice (some ⟨g, off, none⟩) m c) ∧ (∀ j, w3.frozen? ⟨w.heap.size, j, none⟩ = false) ∧
                Hid (∀ w4, Hid (w4 = (w3.setCell ⟨w.heap.size, 0, none⟩ (.int .i64 (x.n + 1))).setCell ⟨w.heap.size, 1, none⟩ (.slice a3 r.length c3)) → Rel v0 (w.heap.size + 1 + 1) w.heap.size w4 (x.n + 1) r (o' ++ [x]) v' ∧ Below w.heap.size w w4)) := fun v3 w3 ho3 hg3 => by
            have hml : 0 + (m - 1) = r.length := by have := HM.out; omega
            rw [hml, List.nil_append] at ho3
            obtain ⟨a3, c3, hv3⟩ := Sl.len (Sl.of_owns ho3)
            have hlt := kB.lt
            have kB3 : Blk w3 w.heap.size #[.int .i64 x.n, .slice (some ⟨g, off, none⟩) m c] 57 := (hg3.block w.heap.size (by show _ < (w2.alloc _).heap.size; simp; omega) (by simp [Value.ownBlock]; omega)).trans ((Below.heap_alloc w2 _ w.heap.size hlt).trans (by rw [hm]; exact kB))
            obtain ⟨e0, e1⟩ := kB3.two
            refine ⟨a3, c3, hv3, e0, e1, kB3.free, fun w4 hw4 => ⟨R2.out.step (by omega) (by omega) hv3 ho3 (obj := .cells #[] 91) ⟨hg3.os, hg3.tape, hg3.output, hg3.size, hg3.block⟩ (by rw [hw4.out, hv3]), ?_⟩⟩
            rw [hw4.out]
            have hb3 : Below w.heap.size w w3 := ((B2.out.alloc B2.out.size _).drew).grown hg3 (by have := B2.out.size; show _ ≤ (w2.alloc _).heap.size; simp; omega) (fun j hj => by simp only [Value.ownBlock, Option.some.injEq] at hj; have := B2.out.size; omega)
            exact (hb3.setCell (by simp) _).setCell (by simp) _
          have ltB : w.heap.size < w2.heap.size := by omega
          have hwr : IntKind.i64.wrap (x.n + 1) = x.n + 1 := by rw [IntKind.wrap_i64]; omega
          have hml2 : Hid (r.length + (o' ++ [x]).length ≤ 50) := by show _ ≤ _; simp at hle ⊢; omega
          have hnr : Nums r := fun y hy => hnu y (by simp [hy])
          clear kB kR kS kc kO kA kD hm hat RE HB R2 B2 S2 KT
          by_cases hc1 : c = 1
          · have hm2 : m = 1 := by have h1 := HM.out; have h2 := KC.out; omega
            have hr0 : r = [] := List.eq_nil_of_length_eq_zero (by have := HM.out; omega)
            subst hc1 hm2 hr0
            have new3 : Hid (∀ j u, (skCells ([] : List Sk))[j]? = some u → (w2.alloc (.cells #[] 91)).drew.cell? ((⟨g, off, none⟩ : Addr).add j) = some u) := fun j u hj => by simp [skCells] at hj
            go_region_law (refine step_append_own2 rfl (.tmp 40) (.tmp 43) 55 rfl w2.heap.size 91 i0 _ 7 48 Tryz.underlying55 hi hz0 hz1 hz2 rfl (by decide) (.slice (some ⟨w2.heap.size, 0, none⟩) 0 0) 0 [] (by simp [Act.eval, Act.put]) own2.out ⟨g, off, none⟩ 0 0 (skCells ([] : List Sk)) (by simp [Act.eval, Act.put]) rfl new3.out one2.out q2.out q3.out q4.out ?_; intro v3 w3 ho3 hg3 _; obtain ⟨a3, c3, hv3, g0, g1, gf, G⟩ := aft2.out v3 w3 ho3 hg3; clear ho3 hg3; subst hv3)
            all_goals
              clear own2 new2 new3 one2 q1 q2 q3 q4 aft2
              go_wp2
              go_roundg 0
              case measure => simp at hgg; omega
              case rel =>
                have GG := G.out _ rfl
                exact ⟨x.n + 1, [], o' ++ [x], GG.1, RL2, hnr, by omega, hml2.out, GG.2, Nat.le_refl _⟩
          · go_region_law (refine step_append_own2 rfl (.tmp 40) (.tmp 43) 55 rfl w2.heap.size 91 i0 _ 7 48 Tryz.underlying55 hi hz0 hz1 hz2 rfl (by decide) (.slice (some ⟨w2.heap.size, 0, none⟩) 0 0) 0 [] (by simp [Act.eval, Act.put]) own2.out ⟨g, off + 7, none⟩ (m - 1) (c - 1) (skCells r) (by simp [Act.eval, Act.put]) q1.out new2.out one2.out q2.out q3.out q4.out ?_; intro v3 w3 ho3 hg3 _; obtain ⟨a3, c3, hv3, g0, g1, gf, G⟩ := aft2.out v3 w3 ho3 hg3; clear ho3 hg3; subst hv3)
            all_goals
              clear own2 new2 one2 q1 q2 q3 q4 aft2
              go_wp2
              go_roundg r.length
              case measure => simp at hgg; omega
              case rel =>
                have GG := G.out _ rfl
                exact ⟨x.n + 1, r, o' ++ [x], GG.1, RL2, hnr, by omega, hml2.out, GG.2, Nat.le_refl _⟩

end Go.Proofs.YtnpaejknoipicafGreat
