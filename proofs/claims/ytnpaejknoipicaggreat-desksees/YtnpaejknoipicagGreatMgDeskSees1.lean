/-
  Contracts: slices.IndexFunc and slices.ContainsFunc over slots, whatever closure they are handed.
-/
import Derived.WalkKit
import Derived.WalkSpells
import Derived.Test.YtnpaejknoipicagGreatRows
import Derived.ProofKit
import Derived.OpenShut
import Derived.ShutString
import Derived.ChangeOld
import Derived.Below
import Derived.SizedLaws
import Derived.WalkLawsBesides
import Derived.Handy
import Derived.Test.YtnpaejknoipicagGreatWirePlain
import Derived.Orders
import Derived.Laws.CopyRow
import Derived.Deep.RegionLaw
import Derived.Lib.AppendStr
import Derived.Recover
import Derived.Defers
import Derived.Lib.BufferWrite
import Derived.Lib.UnsafeStr
import Derived.Laws.MakeOwn
import Derived.Test.YtnpaejknoipicagGreatCountPlain
import Derived.Shelf.Abstract

namespace Go.Proofs.YtnpaejknoipicagGreat
open Go.RowKit

def Sl (w : World) (v : Value) (n size : Nat) (xs : List Value) : Prop :=
  xs.length = n * size ∧ ((n = 0 ∧ ∃ a c, v = .slice a 0 c) ∨
    ∃ b off c, v = .slice (some ⟨b, off, none⟩) n c ∧ b < w.heap.size ∧ ∀ j u, xs[j]? = some u → w.cell? ⟨b, off + j, none⟩ = some u)

theorem Sl.below {w w' : World} {v : Value} {n size : Nat} {xs : List Value} (h : Sl w v n size xs) (hb : Below w.heap.size w w') : Sl w' v n size xs := by
  obtain ⟨hl, h | ⟨b, off, c, rfl, hlt, hc⟩⟩ := h
  · exact ⟨hl, .inl h⟩
  · exact ⟨hl, .inr ⟨b, off, c, rfl, Nat.lt_of_lt_of_le hlt hb.size, fun j u hj => (hb.cell (p := ⟨b, off + j, none⟩) hlt).trans (hc j u hj)⟩⟩

theorem Sl.of_owns {w : World} {base : Nat} {e : TypeId} {size : Nat} {v : Value} {n : Nat} {xs : List Value} (h : w.ownsRow base e size v n xs) : Sl w v n size xs := by
  obtain ⟨hl, ⟨rfl, rfl⟩ | ⟨g, cap, cur, rfl, hb, hh, hn, hm, hs, ht⟩⟩ := h
  · exact ⟨hl, .inl ⟨rfl, none, 0, rfl⟩⟩
  · refine ⟨hl, .inr ⟨g, 0, cap, rfl, lt_of_block hh, fun j u hj => ?_⟩⟩
    have hlt : j < xs.length := by
      cases h : decide (j < xs.length)
      · simp at h; rw [List.getElem?_eq_none h] at hj; cases hj
      · exact of_decide_eq_true h
    have : cur.toList[j]? = some u := by
      rw [← ht, List.getElem?_take] at hj
      rw [if_pos (by omega)] at hj
      exact hj
    simp [World.cell?, hh]
    simpa using this

theorem Sl.new (w : World) (cs : Array Value) (t : TypeId) (n size c : Nat) (h : cs.size = n * size) : Sl (w.alloc (.cells cs t)) (.slice (some ⟨w.heap.size, 0, none⟩) n c) n size cs.toList :=
  ⟨by simpa using h, .inr ⟨w.heap.size, 0, c, rfl, by simp, fun j u hj => by rw [Nat.zero_add, World.cell?_alloc_new]; simpa using hj⟩⟩

/-- a slice value's length -/
theorem Sl.len {w : World} {v : Value} {n size : Nat} {xs : List Value} (h : Sl w v n size xs) : ∃ a c, v = .slice a n c := by
  obtain ⟨_, ⟨rfl, a, c, rfl⟩ | ⟨b, off, c, rfl, _, _⟩⟩ := h
  · exact ⟨_, _, rfl⟩
  · exact ⟨_, _, rfl⟩

theorem Sl.parts {w : World} {v : Value} {n size : Nat} {xs : List Value} (h : Sl w v n size xs) :
    ∃ ao c, v = .slice ao n c ∧ ∀ j u, xs[j]? = some u → ∃ b off, ao = some ⟨b, off, none⟩ ∧ b < w.heap.size ∧ w.cell? ⟨b, off + j, none⟩ = some u := by
  obtain ⟨hl, ⟨rfl, a, c, rfl⟩ | ⟨b, off, c, rfl, hb, hc⟩⟩ := h
  · exact ⟨a, c, rfl, fun j u hj => by rw [Nat.zero_mul] at hl; rw [List.eq_nil_of_length_eq_zero hl] at hj; cases hj⟩
  · exact ⟨_, c, rfl, fun j u hj => ⟨b, off, rfl, hb, hc j u hj⟩⟩

theorem Sl.ints {w : World} {v : Value} {zs : List Int} {k : IntKind} (h : Sl w v zs.length 1 (zs.map (Value.int k))) :
    ∃ ao c, v = .slice ao zs.length c ∧ ∀ j, j < zs.length → ∃ b off, ao = some ⟨b, off, none⟩ ∧ b < w.heap.size ∧ w.cell? ⟨b, off + j, none⟩ = some (.int k (zs[j]?.getD 0)) := by
  obtain ⟨ao, c, hv, hc⟩ := h.parts
  exact ⟨ao, c, hv, fun j hj => hc j _ (by simp [List.getElem?_eq_getElem hj])⟩

/-- block b holds these cells -/
def Boxed (w : World) (b : Nat) (C : Array Value) : Prop := b < w.heap.size ∧ ∀ j u, C[j]? = some u → w.cell? ⟨b, j, none⟩ = some u
theorem Boxed.new (w : World) (C : Array Value) (t : TypeId) : Boxed (w.alloc (.cells C t)) w.heap.size C :=
  ⟨by simp, fun j u h => by rw [World.cell?_alloc_new]; exact h⟩
theorem Boxed.alloc {w : World} {b : Nat} {C : Array Value} (h : Boxed w b C) (o : Obj) : Boxed (w.alloc o) b C :=
  ⟨by have := h.1; simp; omega, fun j u hj => (World.cell?_alloc_past _ _ _ h.1).trans (h.2 j u hj)⟩
theorem Boxed.below {w w' : World} {b B : Nat} {C : Array Value} (h : Boxed w b C) (hb : Below B w w') (hB : b < B) : Boxed w' b C :=
  ⟨Nat.lt_of_lt_of_le h.1 hb.size, fun j u hj => (hb.cell (p := ⟨b, j, none⟩) hB).trans (h.2 j u hj)⟩
theorem Boxed.six {w : World} {b : Nat} {x0 x1 x2 x3 x4 x5 : Value} (h : Boxed w b #[x0, x1, x2, x3, x4, x5]) :
    w.cell? ⟨b, 0, none⟩ = some x0 ∧ w.cell? ⟨b, 1, none⟩ = some x1 ∧ w.cell? ⟨b, 2, none⟩ = some x2 ∧ w.cell? ⟨b, 3, none⟩ = some x3 ∧ w.cell? ⟨b, 4, none⟩ = some x4 ∧ w.cell? ⟨b, 5, none⟩ = some x5 :=
  ⟨h.2 0 _ rfl, h.2 1 _ rfl, h.2 2 _ rfl, h.2 3 _ rfl, h.2 4 _ rfl, h.2 5 _ rfl⟩

/-- one new cell, as append's law asks it -/
theorem news1 {w : World} {x : Value} {t : TypeId} {n : Nat} (hn : n = w.heap.size) : ∀ j u, [x][j]? = some u → (w.alloc (.cells #[x] t)).cell? ((⟨n, 0, none⟩ : Addr).add j) = some u := by
  intro j u hj
  match j, hj with
  | 0, hj => simp at hj; subst hj; subst hn; simp [Addr.add]
theorem one1 {k : IntKind} {n : Int} : ∀ u ∈ [Value.int k n], u.oneCell' = true := by
  intro u hu; simp at hu; subst hu; rfl

end Go.Proofs.YtnpaejknoipicagGreat

namespace Go.Proofs.YtnpaejknoipicagGreat
open Go.ChangeShapes Go.WideShapes Go.ChangeAt Go.RowKit
open Go.ChangeMaps (open_string shut_string)

theorem own : ownKnob Tryz.prog.godebug = none := by kernel_rfl
theorem laidOut : laidOutB Tryz.prog = true := by kernel_rfl

section
variable {H : Type} {enc : TypeId × Value → H} {P : Program} {W : World} {r : Reach} {b0 : Nat} {t e : TypeId} {v : Value} {d : DataW H} {p : List MemPlace}

end

end Go.Proofs.YtnpaejknoipicagGreat

namespace Go.Proofs.YtnpaejknoipicagGreat
open Go.RowKit

end Go.Proofs.YtnpaejknoipicagGreat

namespace Go.Proofs.YtnpaejknoipicagGreat
open Go.RowKit

set_option maxHeartbeats 1000000 in
theorem check_any (p : Pk) (w : World) :
    Calls Tryz.prog 35 #[p.val] w fun e w' => e = .returned (.int .i64 p.chk) ∧ w' = w.alloc (.cells p.cells 63) := by
  obtain ⟨seq, time, f, e, k, t⟩ := p
  simp only [Pk.val, Pk.cells, Pk.chk]
  by_cases h1 : seq < 0
  · rw [if_pos h1]
    go_enter Tryz.func35, Tryz.ntmps35
    go_wp2
    go_ret
    exact ⟨rfl, rfl⟩
  rw [if_neg h1]
  by_cases h2 : 65535 < seq
  · rw [if_pos h2]
    go_enter Tryz.func35, Tryz.ntmps35
    go_wp2
    go_ret
    exact ⟨rfl, rfl⟩
  rw [if_neg h2]
  by_cases h3 : time < 0
  · rw [if_pos h3]
    go_enter Tryz.func35, Tryz.ntmps35
    go_wp2
    go_ret
    exact ⟨rfl, rfl⟩
  rw [if_neg h3]
  by_cases h4 : 1000000 < time
  · rw [if_pos h4]
    go_enter Tryz.func35, Tryz.ntmps35
    go_wp2
    go_ret
    exact ⟨rfl, rfl⟩
  rw [if_neg h4]
  by_cases h5 : 8 < (t.size : Int)
  · rw [if_pos h5]
    go_enter Tryz.func35, Tryz.ntmps35
    go_wp2
    go_ret
    exact ⟨rfl, rfl⟩
  rw [if_neg h5]
  cases k
  · go_enter Tryz.func35, Tryz.ntmps35
    go_wp2
    go_ret
    exact ⟨rfl, rfl⟩
  · cases f
    · go_enter Tryz.func35, Tryz.ntmps35
      go_wp2
      go_ret
      exact ⟨rfl, rfl⟩
    · go_enter Tryz.func35, Tryz.ntmps35
      go_wp2
      go_ret
      exact ⟨rfl, rfl⟩

end Go.Proofs.YtnpaejknoipicagGreat

namespace Go.Proofs.YtnpaejknoipicagGreat
open Go.RowKit

section
variable {P : Program} (w : World)

theorem run_append_own2 (base : Nat) (t ty e : TypeId) (i : TypeInfo) (z : Value) (size bytes : Nat) (ht : P.underlying t = some (.slice e)) (hi : P.info? e = some i) (hz : i.zero = some z)
    (hsize : i.size = size) (hby : i.bytes = bytes) (hzs : z.cells.size = size) (hsz : 0 < size)
    (v : Value) (n : Nat) (xs : List Value) (hown : w.ownsRow base e size v n xs)
    (a : Addr) (m c : Nat) (news : List Value) (hl : news.length = m * size) (hnews : ∀ j u, news[j]? = some u → w.cell? (a.add j) = some u) (h1 : ∀ u ∈ news, u.oneCell' = true)
    (h63 : n + m ≤ maxLen) (hbytes : (n + m) * bytes ≤ 140737488355328) (hbase : base ≤ w.heap.size) :
    ∃ v' w', (Builtin.append_ #[t, t] ty #[v, .slice (some a) m c]).run P w = .ok v' w' ∧ w'.ownsRow base e size v' (n + m) (xs ++ news) ∧ w.grownBy w' v.ownBlock ∧
      (v'.ownBlock = v.ownBlock ∨ ∀ g, v'.ownBlock = some g → w.heap.size ≤ g) := by
  obtain ⟨v', w', hr, ho, hg, _⟩ := run_append_own (P := P) w base t ty e i z size bytes ht hi hz hsize hby hzs hsz v n xs hown a m c news hl hnews h1 h63 hbytes hbase
  refine ⟨v', w', hr, ho, hg, ?_⟩
  obtain ⟨hxl, ⟨rfl, rfl⟩ | ⟨g, cap, cur, rfl, hbg, hgg, hnc, hcm, hcs, htake⟩⟩ := hown
  · have hx : xs = [] := List.eq_nil_of_length_eq_zero (by simpa using hxl)
    subst hx
    obtain ⟨v2, w2, hr2, ho2, _, _⟩ := run_append_own (P := P) w w.heap.size t ty e i z size bytes ht hi hz hsize hby hzs hsz (.slice none 0 0) 0 [] (World.ownsRow_nil w w.heap.size e size) a m c news hl hnews h1 h63 hbytes (Nat.le_refl _)
    rw [hr] at hr2
    injection hr2 with e1 e2
    subst e1
    exact .inr fun g hg => (ho2.lt g hg).1
  · by_cases hroom : n + m ≤ cap
    · subst hsize
      have hfit : n * i.size + news.length ≤ cur.size := by rw [hl, hcs, ← Nat.add_mul]; exact Nat.mul_le_mul_right _ hroom
      have hr2 := run_append_room (P := P) w t ty e i ht hi g n cap cur hgg a m c news hl hnews h1 hroom hfit
      rw [hr] at hr2
      injection hr2 with e1 e2
      subst e1
      exact .inl rfl
    · have holds : ∀ j u, xs[j]? = some u → w.cell? ((⟨g, 0, none⟩ : Addr).add j) = some u := fun j u hj => by
        have hlt : j < xs.length := (List.getElem?_eq_some_iff.1 hj).1
        have : cur.toList[j]? = some u := by
          rw [← htake, List.getElem?_take, if_pos (by omega)] at hj
          exact hj
        rw [Addr.add_lit]
        simp [World.cell?, hgg]
        simpa using this
      obtain ⟨v2, w2, hr2, ho2, _⟩ := run_append_arg_grows (P := P) w t ty e i z size bytes ht hi hz hsize hby hzs hsz ⟨g, 0, none⟩ n cap xs hxl holds a m c news hl hnews (by omega) h63 hbytes
      rw [hr] at hr2
      injection hr2 with e1 e2
      subst e1
      exact .inr fun g hg => (ho2.lt g hg).1

theorem wpList_append_own2 {ops : Array Oper} {rest : List Oper} {o : Oper} {a : Act} {Q : Exit → Act → World → Prop} (hgd : o.guard = none) (s x : Operand) (t : TypeId)
    (ho : o.op = .call { callee := .builtin .append, args := #[s, x], argTypes := #[t, t] })
    (base : Nat) (e : TypeId) (i : TypeInfo) (z : Value) (size bytes : Nat) (ht : P.underlying t = some (.slice e)) (hi : P.info? e = some i) (hz : i.zero = some z)
    (hsize : i.size = size) (hby : i.bytes = bytes) (hzs : z.cells.size = size) (hsz : 0 < size)
    (v : Value) (n : Nat) (xs : List Value) (hs : a.eval s = v) (hown : w.ownsRow base e size v n xs)
    (ad : Addr) (m c : Nat) (news : List Value) (hx : a.eval x = .slice (some ad) m c) (hl : news.length = m * size) (hnews : ∀ j u, news[j]? = some u → w.cell? (ad.add j) = some u) (h1 : ∀ u ∈ news, u.oneCell' = true)
    (h63 : n + m ≤ maxLen) (hbytes : (n + m) * bytes ≤ 140737488355328) (hbase : base ≤ w.heap.size)
    (h : ∀ v' w', w'.ownsRow base e size v' (n + m) (xs ++ news) → w.grownBy w' v.ownBlock → (v'.ownBlock = v.ownBlock ∨ ∀ g, v'.ownBlock = some g → w.heap.size ≤ g) → wpList P ops Q rest (a.put o.dst v') w') : wpList P ops Q (o :: rest) a w := by
  refine wpList_plain hgd fun K hK => ?_
  obtain ⟨v', w', hr, h2, h3, h4⟩ := run_append_own2 (P := P) w base t o.type e i z size bytes ht hi hz hsize hby hzs hsz v n xs hown ad m c news hl hnews h1 h63 hbytes hbase
  unfold Oper.wp execOp
  simp only [ho, resolve, invoke, builtin, Sem.run_bind, Sem.run_pure, Result.andThen_ok, List.map_toArray, List.map_cons, List.map_nil, hs, hx, hr]
  exact hK _ _ (h v' w' h2 h3 h4)
end

/-- two slice values do not lie in one row -/
def Apart (v u : Value) : Prop := ∀ g, v.ownBlock = some g → u.ownBlock = some g → False
theorem Apart.nil (u : Value) : Apart (.slice none 0 0) u := fun g h _ => by simp [Value.ownBlock] at h
theorem Apart.symm {v u : Value} (h : Apart v u) : Apart u v := fun g h1 h2 => h g h2 h1

theorem Apart.grow {w : World} {base : Nat} {e : TypeId} {size n : Nat} {v v' u : Value} {xs : List Value} (ha : Apart v u) (hu : w.ownsRow base e size u n xs) (hd : v'.ownBlock = v.ownBlock ∨ ∀ g, v'.ownBlock = some g → w.heap.size ≤ g) : Apart v' u := by
  intro g h1 h2
  rcases hd with hd | hd
  · exact ha g (hd ▸ h1) h2
  · have := (hu.lt g h2).2
    have := hd g h1
    omega

end Go.Proofs.YtnpaejknoipicagGreat

namespace Go.Proofs.YtnpaejknoipicagGreat
open Go.RowKit

def Pk.flags (f e k : Bool) : Int := (if f then 1 else 0) + (if e then 2 else 0) + (if k then 4 else 0)

theorem Tryz.infoU8 : (Tryz.prog.info? 5).map (fun i => (i.zero, i.size, i.bytes)) = some (some (.int .u8 0), 1, 1) := by kernel_rfl

end Go.Proofs.YtnpaejknoipicagGreat

namespace Go.Proofs.YtnpaejknoipicagGreat
open Go.RowKit

section
variable {P : Program} {Q : Exit → Act → World → Prop}

/-- how many are not listed yet -/
def left (L : Array Bool) : Nat := L.toList.countP (· == false)

theorem left_set {L : Array Bool} {i : Nat} (h : L[i]? = some false) : left (L.setIfInBounds i true) + 1 = left L := by
  obtain ⟨l⟩ := L
  simp only [left, List.setIfInBounds_toArray] at *
  have h' : l[i]? = some false := by simpa using h
  clear h
  induction l generalizing i with
  | nil => simp at h'
  | cons b r ih =>
    cases i with
    | zero => simp at h'; subst h'; simp
    | succ i =>
      simp only [List.getElem?_cons_succ] at h'
      have := ih h'
      simp only [List.set_cons_succ, List.countP_cons] at this ⊢
      omega

theorem getD_false {L : Array Bool} {i : Nat} (h : L.getD i true = false) : L[i]? = some false := by
  cases hi : L[i]? with
  | none => simp [Array.getD_eq_getD_getElem?, hi] at h
  | some b => simp [Array.getD_eq_getD_getElem?, hi] at h; rw [h]

theorem wpAny_inv {md : Region.Mode} {ops : Array Oper} (I : Array Bool → Act → World → Prop) (hguard : ∀ o ∈ ops, o.guard = none)
    (hstep : ∀ L a w, L.size = ops.size → I L a w → ∀ (i : Nat) (o : Oper), ops[i]? = some o → L[i]? = some false → (∀ e ∈ o.after, Region.binds md e = true → L.getD e.on false = true) → o.wp P a w (fun a' w' => I (L.setIfInBounds i true) a' w') Q)
    (hend : ∀ L a w, L.size = ops.size → I L a w → Region.ready md ops L = [] → Q .normal a w) :
    ∀ (fuel : Nat) (L : Array Bool) (a : Act) (w : World), L.size = ops.size → left L ≤ fuel → I L a w → wpAny P md ops Q fuel L a w
  | 0, L, a, w, hs, hf, hI => by
    have hr : Region.ready md ops L = [] := by
      rw [List.eq_nil_iff_forall_not_mem]
      intro j hj
      have h := getD_false (mem_ready.1 hj).1
      have := left_set h
      omega
    exact ⟨hr, hend L a w hs hI hr⟩
  | fuel + 1, L, a, w, hs, hf, hI => by
    refine ⟨hend L a w hs hI, fun i hi => ?_⟩
    obtain ⟨h1, o, h2, h3⟩ := mem_ready.1 hi
    have h4 := getD_false h1
    have hw : Region.wanted o (yielded ops a.tmps) = true := by
      have : o.guard = none := hguard o (Array.mem_of_getElem? h2)
      simp [Region.wanted, this]
    unfold wpOp
    simp only [h2, hw, if_true]
    exact .inl (Oper.wp_mono (fun a' w' h => wpAny_inv I hguard hstep hend fuel _ a' w' (by simpa using hs) (by have := left_set h4; omega) h) (hstep L a w hs hI i o h2 h4 h3))

/-- where each waits for earlier ones alone: nothing is ready, so all are listed -/
theorem ready_nil {md : Region.Mode} {ops : Array Oper} {L : Array Bool} (hs : L.size = ops.size) (hB : ∀ (i : Nat) (o : Oper), ops[i]? = some o → ∀ e ∈ o.after, Region.binds md e = true → e.on < i) (hr : Region.ready md ops L = []) : ∀ i, i < ops.size → L[i]? = some true := by
  intro i
  induction i using Nat.strongRecOn with
  | _ i ih =>
    intro hi
    have ho : ops[i]? = some ops[i] := Array.getElem?_eq_getElem hi
    cases hL : L[i]? with
    | none => rw [Array.getElem?_eq_none_iff] at hL; omega
    | some b =>
      cases b with
      | true => rfl
      | false =>
        have : i ∈ Region.ready md ops L := mem_ready.2 ⟨by simp [Array.getD_eq_getD_getElem?, hL], ops[i], ho, fun e he hb => by
          have h1 := hB i _ ho e he hb
          simp [Array.getD_eq_getD_getElem?, ih e.on h1 (by omega)]⟩
        rw [hr] at this; cases this

/-- the frame behind those that are listed, in the text's order -/
def putL (L : Array Bool) (vs : Nat → Value) : Nat → List Oper → Act → Act
  | _, [], a => a
  | k, o :: r, a => putL L vs (k + 1) r (if L.getD k false = true then a.put o.dst (vs k) else a)
def upd (vs : Nat → Value) (i : Nat) (v : Value) : Nat → Value := fun j => if j = i then v else vs j
theorem upd_at (vs : Nat → Value) (i : Nat) (v : Value) : upd vs i v i = v := by simp [upd]
theorem upd_ne {vs : Nat → Value} {i j : Nat} {v : Value} (h : j ≠ i) : upd vs i v j = vs j := by simp [upd, h]
/-- no two write one slot -/
def dstsApart : List Oper → Bool
  | [] => true
  | o :: r => (match o.dst with | none => true | some d => r.all fun p => p.dst != some d) && dstsApart r
theorem putL_comm {L : Array Bool} {vs : Nat → Value} {d : Option Tmp} {v : Value} : ∀ (l : List Oper) (k : Nat) (a : Act), (∀ t, d = some t → ∀ p ∈ l, p.dst ≠ some t) → putL L vs k l (a.put d v) = (putL L vs k l a).put d v
  | [], _, _, _ => rfl
  | o :: r, k, a, h => by
    simp only [putL]
    by_cases hk : L.getD k false = true
    · rw [if_pos hk, if_pos hk, Act.put_comm a v (vs k) (fun t ht => h t ht o List.mem_cons_self)]
      exact putL_comm r (k + 1) _ (fun t ht p hp => h t ht p (List.mem_cons_of_mem _ hp))
    · rw [if_neg hk, if_neg hk]
      exact putL_comm r (k + 1) _ (fun t ht p hp => h t ht p (List.mem_cons_of_mem _ hp))
theorem putL_same {L L' : Array Bool} {vs vs' : Nat → Value} : ∀ (l : List Oper) (k : Nat) (a : Act), (∀ j, k ≤ j → L'.getD j false = L.getD j false ∧ vs' j = vs j) → putL L' vs' k l a = putL L vs k l a
  | [], _, _, _ => rfl
  | o :: r, k, a, h => by
    simp only [putL]
    rw [(h k (Nat.le_refl _)).1, (h k (Nat.le_refl _)).2]
    exact putL_same r (k + 1) _ (fun j hj => h j (by omega))
theorem getD_set_other {L : Array Bool} {i j : Nat} (h : j ≠ i) (d : Bool) : (L.setIfInBounds i true).getD j d = L.getD j d := by
  simp [Array.getD_eq_getD_getElem?, Array.getElem?_setIfInBounds_ne (Ne.symm h)]
theorem getD_set_at {L : Array Bool} {i : Nat} (h : L[i]? = some false) (d : Bool) : (L.setIfInBounds i true).getD i d = true := by
  have hi : i < L.size := (Array.getElem?_eq_some_iff.1 h).1
  simp [Array.getD_eq_getD_getElem?, hi]
theorem putL_set {L : Array Bool} {vs : Nat → Value} {i : Nat} {v : Value} (hL : L[i]? = some false) : ∀ (l : List Oper) (k : Nat) (a : Act) (o : Oper), dstsApart l = true → k ≤ i → l[i - k]? = some o →
    putL (L.setIfInBounds i true) (upd vs i v) k l a = (putL L vs k l a).put o.dst v
  | [], _, _, _, _, _, h => by simp at h
  | p :: r, k, a, o, hd, hk, ho => by
    simp only [dstsApart, Bool.and_eq_true] at hd
    by_cases e : k = i
    · subst e
      simp at ho
      subst ho
      have h0 : L.getD k false = false := by simp [Array.getD_eq_getD_getElem?, hL]
      simp only [putL]
      rw [if_pos (getD_set_at hL _), upd_at, if_neg (by rw [h0]; simp)]
      rw [putL_same r (k + 1) _ (fun j hj => ⟨getD_set_other (by omega) _, upd_ne (by omega)⟩)]
      refine putL_comm r (k + 1) a (fun t ht q hq => ?_)
      have h1 := hd.1
      rw [ht] at h1
      simp only [List.all_eq_true, bne_iff_ne] at h1
      exact h1 q hq
    · simp only [putL]
      rw [getD_set_other e, upd_ne e]
      have h1 : i - k = (i - (k + 1)) + 1 := by omega
      rw [h1, List.getElem?_cons_succ] at ho
      exact putL_set hL r (k + 1) _ o hd.2 (by omega) ho
/-- a slot that none of them writes -/
theorem putL_other {L : Array Bool} {vs : Nat → Value} {x : Operand} : ∀ (l : List Oper) (k : Nat) (a : Act), (∀ p ∈ l, ∀ t, p.dst = some t → x ≠ .tmp t) → (putL L vs k l a).eval x = a.eval x
  | [], _, _, _ => rfl
  | o :: r, k, a, h => by
    simp only [putL]
    rw [putL_other r (k + 1) _ (fun p hp => h p (List.mem_cons_of_mem _ hp))]
    split
    · exact Act.eval_put (fun t ht => h o List.mem_cons_self t ht)
    · rfl
/-- a slot that a listed one has written -/
theorem putL_at {L : Array Bool} {vs : Nat → Value} {i t : Nat} (hL : L.getD i false = true) : ∀ (l : List Oper) (k : Nat) (a : Act) (o : Oper), dstsApart l = true → k ≤ i → l[i - k]? = some o → o.dst = some t → t < a.tmps.size → (putL L vs k l a).eval (.tmp t) = vs i
  | [], _, _, _, _, _, h, _, _ => by simp at h
  | p :: r, k, a, o, hd, hk, ho, ht, hs => by
    simp only [dstsApart, Bool.and_eq_true] at hd
    by_cases e : k = i
    · subst e
      simp at ho
      subst ho
      simp only [putL]
      rw [if_pos hL, putL_other]
      · rw [ht]; simp [Act.put, Act.eval, Array.getD_eq_getD_getElem?, hs]
      · intro q hq u hu e
        injection e with e
        have h1 := hd.1
        rw [ht] at h1
        simp only [List.all_eq_true, bne_iff_ne] at h1
        exact h1 q hq (e ▸ hu)
    · have h1 : i - k = (i - (k + 1)) + 1 := by omega
      rw [h1, List.getElem?_cons_succ] at ho
      simp only [putL]
      refine putL_at hL r (k + 1) _ o hd.2 (by omega) ho ht ?_
      split
      · cases hp : p.dst <;> simp [Act.put, hs]
      · exact hs

/-- what a region must be like -/
def regOk (l : List Oper) : Bool := dstsApart l && l.all (fun o => o.guard.isNone) && (l.zipIdx.all fun p => p.1.after.all fun e => decide (e.on < p.2) || !(Region.binds .any e))

theorem wp_region_inv {id : Nat} {a : Act} {w : World} {l : List Oper} (hm : P.follows .mixedOrders = true) (hB : regOk l = true) (F : Array Bool → (Nat → Value) → World → Prop)
    (h0 : F (Array.replicate l.length false) (fun _ => undef) { w with drawn := w.drawn + 1 })
    (hstep : ∀ L vs w', F L vs w' → ∀ (i : Nat) (o : Oper), l[i]? = some o → L[i]? = some false → (∀ e ∈ o.after, Region.binds .any e = true → L.getD e.on false = true) →
      o.wp P (putL L vs 0 l a) w' (fun a' w'' => ∃ v, a' = (putL L vs 0 l a).put o.dst v ∧ F (L.setIfInBounds i true) (upd vs i v) w'') Q)
    (hend : ∀ L vs w', F L vs w' → (∀ i, i < l.length → L.getD i false = true) → Q .normal (putL L vs 0 l a) w') : (Code.region id l.toArray true).wp P Q a w := by
  simp only [regOk, Bool.and_eq_true] at hB
  obtain ⟨⟨hd, hg⟩, hA⟩ := hB
  refine wp_region_any hm ?_
  refine wpAny_inv (md := .any) (fun L a' w' => ∃ vs, a' = putL L vs 0 l a ∧ F L vs w') ?_ ?_ ?_ _ _ _ _ (by simp) ?_ ?_
  · intro o ho
    have := List.all_eq_true.1 hg o (by simpa using ho)
    simpa using this
  · rintro L a' w' hs ⟨vs, rfl, hF⟩ i o ho hL hrdy
    refine Oper.wp_mono (fun a'' w'' ⟨v, h1, h2⟩ => ?_) (hstep L vs w' hF i o (by simpa using ho) hL hrdy)
    exact ⟨upd vs i v, by rw [h1, putL_set hL l 0 a o hd (Nat.zero_le _) (by simpa using ho)], h2⟩
  · rintro L a' w' hs ⟨vs, rfl, hF⟩ hr
    refine hend L vs w' hF (fun i hi => ?_)
    have := ready_nil hs (fun i o ho e he hb => ?_) hr i (by simpa using hi)
    · simp [Array.getD_eq_getD_getElem?, this]
    · have h1 : (o, i) ∈ l.zipIdx := by
        rw [List.mem_zipIdx_iff_getElem?]; simpa using ho
      have h2 := List.all_eq_true.1 hA _ h1
      rw [Array.all_eq_true_iff_forall_mem] at h2
      simpa [hb] using h2 e he
  · simp only [left]; exact Nat.le_trans List.countP_le_length (by simp)
  · refine ⟨fun _ => undef, ?_, by simpa using h0⟩
    have : ∀ (m : List Oper) (k : Nat) (a : Act), a = putL (Array.replicate l.toArray.size false) (fun _ => undef) k m a := by
      intro m
      induction m with
      | nil => intro k a; rfl
      | cons o r ih =>
        intro k a
        simp only [putL]
        rw [if_neg (by simp [Array.getD_eq_getD_getElem?, Array.getElem?_replicate]; split <;> simp)]
        exact ih (k + 1) a
    exact this l 0 a

end
end Go.Proofs.YtnpaejknoipicagGreat

namespace Go.Proofs.YtnpaejknoipicagGreat
open Go.RowKit

section
variable {P : Program}

theorem run_copy_many (w : World) (dT sT ty elem : TypeId) (size g o dLen dCap : Nat) (a : Addr) (sLen sCap : Nat) (cur : Array Value) (t : TypeId) (cs : List Value)
    (hu : P.underlying dT = some (.slice elem)) (hs : (P.info? elem).map (·.size) = some size) (hg : w.heap[g]? = some (.cells cur t (0, 0))) (hn : cs.length = Nat.min sLen dLen * size)
    (hsrc : ∀ j v, cs[j]? = some v → w.cell? (a.add j) = some v) (hfit : o + cs.length ≤ cur.size) (h1 : ∀ v ∈ cs, v.oneCell' = true) :
    (Builtin.copy_ #[dT, sT] ty #[.slice (some ⟨g, o, none⟩) dLen dCap, .slice (some a) sLen sCap]).run P w =
      .ok (goInt (Nat.min sLen dLen)) (w.setRow g (cur.toList.take o ++ cs ++ cur.toList.drop (o + cs.length)).toArray) := by
  have hst := run_storeCells_at P g o t cs 0 cur w hg (by simpa using hfit) h1
  have hf := run_firstCells_some (P := P) w size (Nat.min sLen dLen) a sLen sCap cs hn hsrc
  cases hq : P.info? elem with
  | none => simp [hq] at hs
  | some i =>
    have hi : i.size = size := by simpa [hq] using hs
    simp [Builtin.copy_, run_underlying hu, Builtin.lenOf, sizeOf, typeInfo, hq, hi, hf, hst]

theorem wpList_run {w : World} {ops : Array Oper} {rest : List Oper} {o : Oper} {a : Act} {Q : Exit → Act → World → Prop} (hgd : o.guard = none) (d s : Operand) (t t' : TypeId)
    (ho : o.op = .call { callee := .builtin .copy, args := #[d, s], argTypes := #[t, t'] }) (v u : Value) (hd : a.eval d = v) (hs : a.eval s = u) {v' : Value} {w' : World}
    (hr : (Builtin.copy_ #[t, t'] o.type #[v, u]).run P w = .ok v' w') (h : wpList P ops Q rest (a.put o.dst v') w') : wpList P ops Q (o :: rest) a w := by
  refine wpList_plain hgd fun K hK => ?_
  unfold Oper.wp execOp
  simp only [ho, resolve, invoke, builtin, Sem.run_bind, Sem.run_pure, Result.andThen_ok, List.map_toArray, List.map_cons, List.map_nil, hd, hs, hr]
  exact hK _ _ h

theorem step_run {ops : Array Oper} {o : Oper} {a : Act} {w : World} {K : Act → World → Prop} {Q : Exit → Act → World → Prop} {E : Prop} (hgd : o.guard = none) (d s : Operand) (t t' : TypeId)
    (ho : o.op = .call { callee := .builtin .copy, args := #[d, s], argTypes := #[t, t'] }) (v u : Value) (hd : a.eval d = v) (hs : a.eval s = u) {v' : Value} {w' : World}
    (hr : (Builtin.copy_ #[t, t'] o.type #[v, u]).run P w = .ok v' w') (h : K (a.put o.dst v') w') :
    if Region.wanted o (yielded ops a.tmps) = true then Oper.wp P o a w K Q else E := by
  have hw : Region.wanted o (yielded ops a.tmps) = true := by simp [Region.wanted, hgd]
  rw [if_pos hw]
  unfold Oper.wp
  simp [execOp, ho, resolve, invoke, builtin, hd, hs, hr, Result.andThen]
  exact h

/-- append to a row of the call's own, as one step of a region that draws its order -/
theorem step_append_own2 {ops : Array Oper} {o : Oper} {a : Act} {w : World} {K : Act → World → Prop} {Q : Exit → Act → World → Prop} {E : Prop} (hgd : o.guard = none) (s x : Operand) (t : TypeId)
    (ho : o.op = .call { callee := .builtin .append, args := #[s, x], argTypes := #[t, t] })
    (base : Nat) (e : TypeId) (i : TypeInfo) (z : Value) (size bytes : Nat) (ht : P.underlying t = some (.slice e)) (hi : P.info? e = some i) (hz : i.zero = some z)
    (hsize : i.size = size) (hby : i.bytes = bytes) (hzs : z.cells.size = size) (hsz : 0 < size)
    (v : Value) (n : Nat) (xs : List Value) (hs : a.eval s = v) (hown : w.ownsRow base e size v n xs)
    (ad : Addr) (m c : Nat) (news : List Value) (hx : a.eval x = .slice (some ad) m c) (hl : news.length = m * size) (hnews : ∀ j u, news[j]? = some u → w.cell? (ad.add j) = some u) (h1 : ∀ u ∈ news, u.oneCell' = true)
    (h63 : n + m ≤ maxLen) (hbytes : (n + m) * bytes ≤ 140737488355328) (hbase : base ≤ w.heap.size)
    (h : ∀ v' w', w'.ownsRow base e size v' (n + m) (xs ++ news) → w.grownBy w' v.ownBlock → (v'.ownBlock = v.ownBlock ∨ ∀ g, v'.ownBlock = some g → w.heap.size ≤ g) → K (a.put o.dst v') w') :
    if Region.wanted o (yielded ops a.tmps) = true then Oper.wp P o a w K Q else E := by
  have hw : Region.wanted o (yielded ops a.tmps) = true := by simp [Region.wanted, hgd]
  rw [if_pos hw]
  obtain ⟨v', w', hr, h2, h3, h4⟩ := run_append_own2 (P := P) w base t o.type e i z size bytes ht hi hz hsize hby hzs hsz v n xs hown ad m c news hl hnews h1 h63 hbytes hbase
  unfold Oper.wp
  simp [execOp, ho, resolve, invoke, builtin, hs, hx, hr, Result.andThen]
  exact h v' w' h2 h3 h4
end

end Go.Proofs.YtnpaejknoipicagGreat

namespace Go.Proofs.YtnpaejknoipicagGreat
open Go.RowKit

/-- block b holds just these cells, none of them frozen -/
def Blk (w : World) (b : Nat) (C : Array Value) (t : TypeId) : Prop := w.heap[b]? = some (.cells C t (0, 0))

theorem Blk.lt {w : World} {b : Nat} {C : Array Value} {t : TypeId} (h : Blk w b C t) : b < w.heap.size := lt_of_block h
theorem Blk.cell {w : World} {b : Nat} {C : Array Value} {t : TypeId} (h : Blk w b C t) {j : Nat} {u : Value} (hj : C[j]? = some u) : w.cell? ⟨b, j, none⟩ = some u := by
  have h' : w.heap[b]? = some (.cells C t (0, 0)) := h
  simp [World.cell?, h', hj]
theorem Blk.free {w : World} {b : Nat} {C : Array Value} {t : TypeId} (h : Blk w b C t) (j : Nat) : w.frozen? ⟨b, j, none⟩ = false := by
  have h' : w.heap[b]? = some (.cells C t (0, 0)) := h
  simp [World.frozen?, h']
theorem Blk.new (w : World) (C : Array Value) (t : TypeId) : Blk (w.alloc (.cells C t)) w.heap.size C t := heap_alloc_new w _
theorem Blk.alloc {w : World} {b : Nat} {C : Array Value} {t : TypeId} (h : Blk w b C t) (o : Obj) : Blk (w.alloc o) b C t := (Below.heap_alloc w o b h.lt).trans h
theorem Blk.drew {w : World} {b : Nat} {C : Array Value} {t : TypeId} (h : Blk w b C t) : Blk w.drew b C t := h
theorem Blk.below {w w' : World} {b B : Nat} {C : Array Value} {t : TypeId} (h : Blk w b C t) (hb : Below B w w') (hB : b < B) : Blk w' b C t := (hb.block b hB).trans h
theorem Blk.other {w : World} {b : Nat} {C : Array Value} {t : TypeId} (h : Blk w b C t) {a : Addr} (ha : b ≠ a.block) (v : Value) : Blk (w.setCell a v) b C t := (Below.heap_setCell w a v b ha).trans h
theorem Blk.set {w : World} {b : Nat} {C : Array Value} {t : TypeId} (h : Blk w b C t) (i : Nat) (v : Value) : Blk (w.setCell ⟨b, i, none⟩ v) b (C.setIfInBounds i v) t := by
  have h' : w.heap[b]? = some (.cells C t (0, 0)) := h
  have hlt := h.lt
  unfold Blk World.setCell
  simp only [Array.getElem?_modify]
  simp [h']

/-- nothing that was there has turned, but blocks of S -/
structure Kept (S : List Nat) (w w' : World) : Prop where
  os : w'.os = w.os
  tape : w'.tape = w.tape
  output : w'.output = w.output
  size : w.heap.size ≤ w'.heap.size
  block : ∀ k, k < w.heap.size → k ∉ S → w'.heap[k]? = w.heap[k]?

theorem Kept.refl (S : List Nat) (w : World) : Kept S w w := ⟨rfl, rfl, rfl, Nat.le_refl _, fun _ _ _ => rfl⟩
theorem Kept.trans {S : List Nat} {a b c : World} (h : Kept S a b) (k : Kept S b c) : Kept S a c :=
  ⟨k.os.trans h.os, k.tape.trans h.tape, k.output.trans h.output, Nat.le_trans h.size k.size, fun j hj hS => (k.block j (Nat.lt_of_lt_of_le hj h.size) hS).trans (h.block j hj hS)⟩
theorem Kept.below {S : List Nat} {a b c : World} (h : Kept S a b) (k : Below b.heap.size b c) : Kept S a c :=
  ⟨k.os.trans h.os, k.tape.trans h.tape, k.output.trans h.output, Nat.le_trans h.size k.size, fun j hj hS => (k.block j (Nat.lt_of_lt_of_le hj h.size)).trans (h.block j hj hS)⟩
theorem Kept.setCell {S : List Nat} {a b : World} (h : Kept S a b) {p : Addr} (hp : p.block ∈ S) (v : Value) : Kept S a (b.setCell p v) :=
  ⟨h.os, h.tape, h.output, by simpa using h.size, fun j hj hS => (Below.heap_setCell b p v j (fun e => hS (e ▸ hp))).trans (h.block j hj hS)⟩
theorem Kept.alloc {S : List Nat} {a b : World} (h : Kept S a b) (o : Obj) : Kept S a (b.alloc o) :=
  ⟨h.os, h.tape, h.output, by have := h.size; simp; omega, fun j hj hS => (Below.heap_alloc b o j (Nat.lt_of_lt_of_le hj h.size)).trans (h.block j hj hS)⟩
theorem Kept.drew {S : List Nat} {a b : World} (h : Kept S a b) : Kept S a b.drew := ⟨h.os, h.tape, h.output, h.size, h.block⟩
theorem Kept.more {S S' : List Nat} {a b c : World} (h : Kept S a b) (k : Kept S' b c) (hS : ∀ j ∈ S', j < a.heap.size → j ∈ S) : Kept S a c :=
  ⟨k.os.trans h.os, k.tape.trans h.tape, k.output.trans h.output, Nat.le_trans h.size k.size, fun j hj hn => (k.block j (Nat.lt_of_lt_of_le hj h.size) (fun hm => hn (hS j hm hj))).trans (h.block j hj hn)⟩
theorem Kept.setNew {S : List Nat} {a b : World} (h : Kept S a b) {p : Addr} (hp : a.heap.size ≤ p.block) (v : Value) : Kept S a (b.setCell p v) :=
  ⟨h.os, h.tape, h.output, by simpa using h.size, fun j hj hS => (Below.heap_setCell b p v j (by omega)).trans (h.block j hj hS)⟩
theorem Blk.kept {S : List Nat} {w w' : World} {b : Nat} {C : Array Value} {t : TypeId} (h : Blk w b C t) (hk : Kept S w w') (hS : b ∉ S) : Blk w' b C t := (hk.block b h.lt hS).trans h
/-- where S lies above B: as below B -/
theorem Kept.toBelow {S : List Nat} {w w' : World} {B : Nat} (h : Kept S w w') (hB : B ≤ w.heap.size) (hS : ∀ k ∈ S, B ≤ k) : Below B w w' :=
  ⟨h.os, h.tape, h.output, h.size, fun k hk => h.block k (by omega) (fun hm => by have := hS k hm; omega)⟩

end Go.Proofs.YtnpaejknoipicagGreat

namespace Go.Proofs.YtnpaejknoipicagGreat
open Go.RowKit

/-- which ones must have come ahead -/
def waits (l : List Oper) (i j : Nat) : Bool := match l[i]? with
  | none => false
  | some o => o.after.toList.any fun e => e.on == j && Region.binds .any e
theorem waits_spec {l : List Oper} {i j : Nat} {o : Oper} {L : Array Bool} (h : waits l i j = true) (ho : l[i]? = some o) (hr : ∀ e ∈ o.after, Region.binds .any e = true → L.getD e.on false = true) : L.getD j false = true := by
  unfold waits at h
  rw [ho] at h
  obtain ⟨e, he, h1⟩ := List.any_eq_true.1 h
  simp only [Bool.and_eq_true, beq_iff_eq] at h1
  rw [← h1.1]; exact hr e (by simpa using he) h1.2

section
variable {P : Program} {Q : Exit → Act → World → Prop}

theorem oper_wp_ok {o : Oper} {a : Act} {w w' : World} {v : Value} {K : Act → World → Prop} (h : (execOp a.eval o).run P w = .ok (.value v) w') (hk : K (a.put o.dst v) w') : o.wp P a w K Q := by
  unfold Oper.wp; rw [h]; exact hk

theorem getD_some {L : Array Bool} {j i : Nat} (h : L.getD j false = true) : (L.setIfInBounds i true).getD j false = true := by
  by_cases e : j = i
  · subst e
    have : j < L.size := by
      by_cases hh : j < L.size
      · exact hh
      · simp [Array.getD_eq_getD_getElem?, Array.getElem?_eq_none (Nat.le_of_not_lt hh)] at h
    simp [Array.getD_eq_getD_getElem?, this]
  · rw [getD_set_other e]; exact h
theorem listed_no {L : Array Bool} {i : Nat} (h : L[i]? = some false) : ¬ L.getD i false = true := by simp [Array.getD_eq_getD_getElem?, h]

theorem setfun {L : Array Bool} {i : Nat} (h : L[i]? = some false) : (fun j => (L.setIfInBounds i true).getD j false) = fun j => decide (j = i) || L.getD j false := by
  funext j
  by_cases e : j = i
  · subst e; rw [getD_set_at h]; simp
  · rw [getD_set_other e]; simp [e]

theorem run_append_nil (w : World) (T ty E : TypeId) (i : TypeInfo) (ht : P.underlying T = some (.slice E)) (hi : P.info? E = some i) (g n c c' : Nat) (hn : n ≤ c) :
    (Builtin.append_ #[T, T] ty #[.slice (some ⟨g, 0, none⟩) n c, .slice none 0 c']).run P w = .ok (.slice (some ⟨g, 0, none⟩) n c) w := by
  simp [Builtin.append_, run_underlying ht, sizeOf, typeInfo, hi, Builtin.lenOf, hn, run_firstCells_none, storeCells]

end
end Go.Proofs.YtnpaejknoipicagGreat

namespace Go.Proofs.YtnpaejknoipicagGreat
open Go.RowKit

section
variable {P : Program}

theorem run_append_nil2 (w : World) (T ty E : TypeId) (i : TypeInfo) (ht : P.underlying T = some (.slice E)) (hi : P.info? E = some i) (c' : Nat) :
    (Builtin.append_ #[T, T] ty #[.slice none 0 0, .slice none 0 c']).run P w = .ok (.slice none 0 0) w := by
  simp [Builtin.append_, run_underlying ht, sizeOf, typeInfo, hi, Builtin.lenOf, run_firstCells_none]

/-- append to a row of the call's own: what is appended may lie anywhere, or be nil -/
theorem run_append_any (w : World) (base : Nat) (T ty E : TypeId) (i : TypeInfo) (z : Value) (size bytes : Nat) (ht : P.underlying T = some (.slice E)) (hi : P.info? E = some i) (hz : i.zero = some z) (hsize : i.size = size) (hby : i.bytes = bytes) (hzs : z.cells.size = size) (hsz : 0 < size)
    (v : Value) (n : Nat) (xs : List Value) (hown : w.ownsRow base E size v n xs) (m : Nat) (cells : List Value) (u : Value) (hu : Sl w u m size cells) (hc1 : ∀ y ∈ cells, y.oneCell' = true) (h63 : n + m ≤ maxLen) (hbytes : (n + m) * bytes ≤ 140737488355328) (hbase : base ≤ w.heap.size) :
    ∃ v' w', (Builtin.append_ #[T, T] ty #[v, u]).run P w = .ok v' w' ∧ w'.ownsRow base E size v' (n + m) (xs ++ cells) ∧ w.grownBy w' v.ownBlock ∧ (v'.ownBlock = v.ownBlock ∨ ∀ g, v'.ownBlock = some g → w.heap.size ≤ g) := by
  have main : ∀ (ad : Addr) (c : Nat), u = .slice (some ad) m c → (∀ j y, cells[j]? = some y → w.cell? (ad.add j) = some y) → ∃ v' w', (Builtin.append_ #[T, T] ty #[v, u]).run P w = .ok v' w' ∧ w'.ownsRow base E size v' (n + m) (xs ++ cells) ∧ w.grownBy w' v.ownBlock ∧ (v'.ownBlock = v.ownBlock ∨ ∀ g, v'.ownBlock = some g → w.heap.size ≤ g) := fun ad c e hcn => by
    subst e
    exact run_append_own2 (P := P) w base T ty E i z size bytes ht hi hz hsize hby hzs hsz v n xs hown ad m c cells hu.1 hcn hc1 h63 hbytes hbase
  obtain ⟨hl, ⟨h0, a, c, rfl⟩ | ⟨b, off, c, rfl, hlt, hc⟩⟩ := hu
  · subst h0
    have hce : cells = [] := List.eq_nil_of_length_eq_zero (by simpa using hl)
    subst hce
    cases a with
    | some ad => exact main ad c rfl (fun j y h => by simp at h)
    | none =>
      rw [Nat.add_zero, List.append_nil]
      refine ⟨v, w, ?_, hown, ⟨rfl, rfl, rfl, Nat.le_refl _, fun _ _ _ => rfl⟩, .inl rfl⟩
      obtain ⟨_, ⟨h1, h2⟩ | ⟨g, cap, cur, h1, _, _, h3, _⟩⟩ := hown
      · rw [h1]; exact run_append_nil2 w T ty E i ht hi c
      · rw [h1]; exact run_append_nil w T ty E i ht hi g n cap c h3
  · exact main ⟨b, off, none⟩ c rfl (fun j y hj => by rw [Addr.add_lit]; exact hc j y hj)

theorem wpList_append_run {w : World} {ops : Array Oper} {rest : List Oper} {o : Oper} {a : Act} {Q : Exit → Act → World → Prop} (hgd : o.guard = none) (d s : Operand) (t t' : TypeId)
    (ho : o.op = .call { callee := .builtin .append, args := #[d, s], argTypes := #[t, t'] }) (v u : Value) (hd : a.eval d = v) (hs : a.eval s = u) {v' : Value} {w' : World}
    (hr : (Builtin.append_ #[t, t'] o.type #[v, u]).run P w = .ok v' w') (h : wpList P ops Q rest (a.put o.dst v') w') : wpList P ops Q (o :: rest) a w := by
  refine wpList_plain hgd fun K hK => ?_
  unfold Oper.wp execOp
  simp only [ho, resolve, invoke, builtin, Sem.run_bind, Sem.run_pure, Result.andThen_ok, List.map_toArray, List.map_cons, List.map_nil, hd, hs, hr]
  exact hK _ _ h

end
end Go.Proofs.YtnpaejknoipicagGreat

namespace Go.Proofs.YtnpaejknoipicagGreat
open Go.RowKit

/-- all below base is as it was, but block B -/
structure But (B base : Nat) (w w' : World) : Prop where
  os : w'.os = w.os
  tape : w'.tape = w.tape
  output : w'.output = w.output
  size : w.heap.size ≤ w'.heap.size
  block : ∀ k, k < base → k ≠ B → w'.heap[k]? = w.heap[k]?
theorem But.refl (B base : Nat) (w : World) : But B base w w := ⟨rfl, rfl, rfl, Nat.le_refl _, fun _ _ _ => rfl⟩
theorem But.trans {B base : Nat} {a b c : World} (h : But B base a b) (k : But B base b c) : But B base a c :=
  ⟨k.os.trans h.os, k.tape.trans h.tape, k.output.trans h.output, Nat.le_trans h.size k.size, fun j hj hn => (k.block j hj hn).trans (h.block j hj hn)⟩
theorem But.of_below {B base : Nat} {a b : World} (h : Below base a b) : But B base a b := ⟨h.os, h.tape, h.output, h.size, fun j hj _ => h.block j hj⟩
theorem But.set {B base : Nat} {a b : World} (h : But B base a b) (i : Nat) (v : Value) : But B base a (b.setCell ⟨B, i, none⟩ v) :=
  ⟨h.os, h.tape, h.output, by simpa using h.size, fun j hj hn => (Below.heap_setCell b ⟨B, i, none⟩ v j hn).trans (h.block j hj hn)⟩
theorem But.toBelow {B base c : Nat} {a b : World} (h : But B base a b) (h1 : c ≤ base) (h2 : c ≤ B) : Below c a b := ⟨h.os, h.tape, h.output, h.size, fun j hj => h.block j (by omega) (by omega)⟩
theorem Blk.but {B base : Nat} {w w' : World} {b : Nat} {C : Array Value} {t : TypeId} (h : Blk w b C t) (hk : But B base w w') (h1 : b < base) (h2 : b ≠ B) : Blk w' b C t := (hk.block b h1 h2).trans h

theorem But.alloc {B base : Nat} {a b : World} (h : But B base a b) (hb : base ≤ b.heap.size) (o : Obj) : But B base a (b.alloc o) := h.trans (But.of_below ((Below.refl base b).alloc hb o))
theorem But.below {B base : Nat} {a b c : World} (h : But B base a b) (hb : base ≤ b.heap.size) (k : Below b.heap.size b c) : But B base a c := h.trans (But.of_below (k.mono hb))

end Go.Proofs.YtnpaejknoipicagGreat

namespace Go.Proofs.YtnpaejknoipicagGreat
open Go.RowKit

end Go.Proofs.YtnpaejknoipicagGreat

namespace Go.Proofs.YtnpaejknoipicagGreat
open Go.RowKit

/-- the bytes of a packet -/
def Pk.enc (p : Pk) : List UInt8 := be (128 + Pk.flags p.f p.e p.k) 1 ++ be p.seq 2 ++ be p.time 4 ++ be p.t.size 1 ++ p.t.data.toList

theorem Pk.chk_ok {p : Pk} (h : p.chk = 0) : 0 ≤ p.seq ∧ p.seq ≤ 65535 ∧ 0 ≤ p.time ∧ p.time ≤ 1000000 ∧ (p.t.size : Int) ≤ 8 ∧ (p.k && !p.f) = false := by
  unfold Pk.chk at h
  by_cases h1 : p.seq < 0
  · rw [if_pos h1] at h; exact absurd h (by decide)
  rw [if_neg h1] at h
  by_cases h2 : 65535 < p.seq
  · rw [if_pos h2] at h; exact absurd h (by decide)
  rw [if_neg h2] at h
  by_cases h3 : p.time < 0
  · rw [if_pos h3] at h; exact absurd h (by decide)
  rw [if_neg h3] at h
  by_cases h4 : 1000000 < p.time
  · rw [if_pos h4] at h; exact absurd h (by decide)
  rw [if_neg h4] at h
  by_cases h5 : 8 < (p.t.size : Int)
  · rw [if_pos h5] at h; exact absurd h (by decide)
  rw [if_neg h5] at h
  cases h6 : (p.k && !p.f)
  · exact ⟨by omega, by omega, by omega, by omega, by omega, rfl⟩
  · rw [h6] at h; exact absurd h (by decide)

theorem Pk.flags_le (f e k : Bool) : 0 ≤ Pk.flags f e k ∧ Pk.flags f e k ≤ 7 := by cases f <;> cases e <;> cases k <;> decide

end Go.Proofs.YtnpaejknoipicagGreat

namespace Go.Proofs.YtnpaejknoipicagGreat
open Go.RowKit

set_option maxHeartbeats 1000000 in
theorem take_few (B : Nat) (s : ByteArray) (n : Int) (w : World) (hc : w.cell? ⟨B, 0, none⟩ = some (.string s)) (hn : (s.size : Int) < n) :
    Calls Tryz.prog 160 #[.pointer (some ⟨B, 0, none⟩), .int .i64 n] w fun e w' =>
      e = .panicked [{ v := .iface 214 (.agg #[]), recovered := false }] ∧ w = w' := by
  go_enter Tryz.func160, Tryz.ntmps160
  go_wp2
  exact ⟨rfl, rfl, rfl⟩

set_option maxHeartbeats 1000000 in
theorem take_some (B n : Nat) (s : ByteArray) (w : World) (hc : w.cell? ⟨B, 0, none⟩ = some (.string s)) (hf : w.frozen? ⟨B, 0, none⟩ = false) (hn : n ≤ s.size) :
    Calls Tryz.prog 160 #[.pointer (some ⟨B, 0, none⟩), .int .i64 n] w fun e w' =>
      e = .returned (.string (s.extract 0 n)) ∧ w' = w.setCell ⟨B, 0, none⟩ (.string (s.extract n s.size)) := by
  have hn' : ¬ (s.size : Int) < (n : Int) := by omega
  go_enter Tryz.func160, Tryz.ntmps160
  go_wp2
  go_ret
  exact ⟨rfl, rfl⟩

/-- the number of bytes, the greatest first -/
def num (l : List UInt8) : Int := l.foldl (fun a b => a * 256 + b.toNat) 0
theorem num_snoc (l : List UInt8) (b : UInt8) : num (l ++ [b]) = num l * 256 + b.toNat := by simp [num]
theorem num_bd (l : List UInt8) : 0 ≤ num l ∧ num l < 256 ^ l.length := by
  have : ∀ (l : List UInt8) (a : Int) (k : Nat), 0 ≤ a → a < 256 ^ k → 0 ≤ l.foldl (fun a b => a * 256 + (b.toNat : Int)) a ∧ l.foldl (fun a b => a * 256 + (b.toNat : Int)) a < 256 ^ (k + l.length) := by
    intro l
    induction l with
    | nil => intro a k h1 h2; exact ⟨h1, h2⟩
    | cons x r ih =>
      intro a k h1 h2
      have hx : x.toNat < 256 := x.toNat_lt
      have := ih (a * 256 + x.toNat) (k + 1) (by omega) (by rw [Int.pow_succ]; omega)
      rw [List.length_cons, show k + (r.length + 1) = k + 1 + r.length by omega]
      exact this
  have h := this l 0 0 (by decide) (by decide)
  rw [Nat.zero_add] at h
  exact h

theorem wrap_small (n : Int) (h0 : 0 ≤ n) (h1 : n < 2 ^ 40) : IntKind.i64.wrap n = n := by
  rw [IntKind.wrap_i64]; omega
theorem or_byte (a c : Int) (h0 : 0 ≤ a) (h1 : a < 256 ^ 3) (h2 : 0 ≤ c) (h3 : c < 256) : bits .or .i64 (wrap64 (a * 256)) c = a * 256 + c := by
  have e : wrap64 (a * 256) = a * 256 := by unfold wrap64; omega
  rw [e]
  exact bits_join .i64 40 (by decide) wrap_small 8 (a * 256) c (by omega) (by omega) (by omega) h2 (by omega) (by omega)
theorem pow_le3 (k : Nat) (h : k < 4) : (256 : Int) ^ k ≤ 256 ^ 3 := by
  match k, h with
  | 0, _ => decide
  | 1, _ => decide
  | 2, _ => decide
  | 3, _ => decide
theorem u8_snoc (l : List UInt8) (k : Nat) (h : k < l.length) : l.take (k + 1) = l.take k ++ [l[k]?.getD 0] := by
  rw [List.take_add_one, List.getElem?_eq_getElem h]; rfl

set_option maxHeartbeats 1000000 in
theorem number_few (B : Nat) (s : ByteArray) (n : Int) (w : World) (hc : w.cell? ⟨B, 0, none⟩ = some (.string s)) (hn : (s.size : Int) < n) :
    Calls Tryz.prog 138 #[.pointer (some ⟨B, 0, none⟩), .int .i64 n] w fun e w' =>
      e = .panicked [{ v := .iface 214 (.agg #[]), recovered := false }] ∧ w = w' := by
  go_enter Tryz.func138, Tryz.ntmps138
  go_wp2_with (go_at_call 160; refine (take_few B s n _ hc hn).mono ?_; rintro e w' ⟨rfl, rfl⟩)
  exact ⟨rfl, rfl, rfl⟩

theorem bytesRow_at (s : ByteArray) (cap j : Nat) (h : j < s.size) : (bytesRow s cap)[j]? = some (.int .u8 (s.data.toList[j]?.getD 0).toNat) := by
  have h' : j < s.data.size := h
  unfold bytesRow
  rw [Array.getElem?_append_left (by simpa using h'), Array.getElem?_map, Array.getElem?_eq_getElem h', Array.getElem?_toList, Array.getElem?_eq_getElem h']
  rfl

theorem new_marked {w : World} {a : Addr} {v : Value} {s : ByteArray} {cap : Nat} {t : TypeId} {mk : Nat × Nat} (j : Nat) (h : j < s.size) :
    ((w.setCell a v).alloc (.cells (bytesRow s cap) t mk)).drew.cell? ⟨w.heap.size, j, none⟩ = some (.int .u8 (s.data.toList[j]?.getD 0).toNat) := by
  have h1 := World.cell?_alloc_mark (w.setCell a v) (bytesRow s cap) t mk j
  rw [World.size_setCell] at h1
  exact h1.trans (bytesRow_at s cap j h)

theorem extract_len (s : ByteArray) (n : Nat) (h : n ≤ s.size) : (s.extract 0 n).size = n := by
  rw [ByteArray.size_extract]; omega

set_option maxHeartbeats 1000000 in
theorem number_some (B n : Nat) (s : ByteArray) (w : World) (hc : w.cell? ⟨B, 0, none⟩ = some (.string s)) (hf : w.frozen? ⟨B, 0, none⟩ = false) (hn : n ≤ s.size) (h4 : n ≤ 4) :
    Calls Tryz.prog 138 #[.pointer (some ⟨B, 0, none⟩), .int .i64 n] w fun e w' =>
      e = .returned (.int .i64 (num (s.data.toList.take n))) ∧ Below w.heap.size (w.setCell ⟨B, 0, none⟩ (.string (s.extract n s.size))) w' := by
  have hbs := fun (wx : World) (s : ByteArray) => run_bytes_of_string (P := Tryz.prog) wx 9 210 5 s Tryz.underlying9 Tryz.underlying210 Tryz.underlying5
  go_enter Tryz.func138, Tryz.ntmps138
  go_wp2_with (go_at_call 160; refine (take_some B n s _ hc hf hn).mono ?_; rintro e w' ⟨rfl, rfl⟩)
  have hxl := extract_len s n hn
  obtain ⟨l, hl⟩ : ∃ l, l = (s.extract 0 n).data.toList := ⟨_, rfl⟩
  have hll : l.length = n := by rw [hl]; exact hxl
  have HL : Hid (l = (s.extract 0 n).data.toList) := hl
  have HLL : Hid (l.length = n) := hll
  clear hbs
  go_loopw [5, 13] (fun v i wr => ∃ (k : Nat), k ≤ n ∧ i = .int .i64 k ∧ v = .int .i64 (num (l.take k)) ∧ (∀ j, j < n → wr.cell? ⟨w.heap.size, j, none⟩ = some (.int .u8 (l[j]?.getD 0).toNat)) ∧ Below w.heap.size (w.setCell ⟨B, 0, none⟩ (.string (s.extract n s.size))) wr) (fun _ i _ => n - (intOf i).toNat)
  case atStart =>
    refine ⟨0, Nat.zero_le _, rfl, rfl, fun j hj => ?_, ?_⟩
    · rw [HL.out]; exact new_marked j (by rw [hxl]; exact hj)
    · exact (((Below.refl _ _).alloc (by simp) _)).drew
  case round =>
    obtain ⟨k, hk, rfl, rfl, hcl, hnx⟩ := hrel
    by_cases hlt : k < n
    · have hck := hcl k hlt
      have hlt' : (k : Int) < (n : Int) := by omega
      obtain ⟨x, hx⟩ : ∃ x, x = l[k]?.getD 0 := ⟨_, rfl⟩
      rw [← hx] at hck
      have HX : Hid (x = l[k]?.getD 0) := hx
      have hxb : (x.toNat : Int) < 256 := by have := x.toNat_lt; omega
      have hnb := num_bd (l.take k)
      have hnb1 := hnb.1
      have hor : bits .or .i64 (wrap64 (num (l.take k) * 256)) (x.toNat : Int) = num (l.take (k + 1)) := by
        rw [u8_snoc l k (by omega), num_snoc, ← hx]
        refine or_byte _ _ hnb.1 ?_ (by omega) hxb
        have h3 := hnb.2
        rw [List.length_take, Nat.min_eq_left (by omega)] at h3
        have := pow_le3 k (by omega)
        omega
      have HOR : Hid (bits .or .i64 (wrap64 (num (l.take k) * 256)) (x.toNat : Int) = num (l.take (k + 1))) := hor
      have HCL : Hid (∀ j, j < n → wr.cell? ⟨w.heap.size, j, none⟩ = some (.int .u8 (l[j]?.getD 0).toNat)) := hcl
      clear hx hcl hl hll hnb hor
      go_wp2
      exact ⟨⟨k + 1, by omega, by go_num, by rw [HOR.out], HCL.out, hnx⟩, by simp [intOf]; omega⟩
    · have hkn : k = n := by omega
      have hfin : num (l.take k) = num (s.data.toList.take n) := by rw [List.take_of_length_le (by omega), hl]; simp
      have HF : Hid (num (l.take k) = num (s.data.toList.take n)) := hfin
      have hge : ¬ (k : Int) < (n : Int) := by omega
      clear hcl hl hll hfin hkn
      go_wp2
      go_ret
      refine ⟨?_, hnx⟩
      show Ending.returned (.int .i64 (num (l.take k))) = _
      rw [HF.out]

end Go.Proofs.YtnpaejknoipicagGreat

namespace Go.Proofs.YtnpaejknoipicagGreat
open Go.RowKit

/-- n zero bytes, made -/
theorem room_for (n : Nat) (hn : n ≤ 1000) : ∃ M : Array Value, M.size = n ∧ ∀ W : World,
    (Instr.makeSlice 210 (.int .i64 (n : Int)) (.int .i64 (n : Int))).run Tryz.prog W = .ok (.slice (some ⟨W.heap.size, 0, none⟩) n n) (W.alloc (.cells M 5)) := by
  obtain ⟨i, hi, h0, h1, h2⟩ := info_parts Tryz.infoU8
  refine ⟨madeCells (Value.int .u8 0).cells (n * i.size), by rw [size_madeCells, h1]; simp, fun W => ?_⟩
  have h := run_make (P := Tryz.prog) W 210 5 i (.int .u8 0) Tryz.underlying210 hi h0 .i64 .i64 n n (by omega) (Int.le_refl _) (by rw [h2]; omega) (by omega)
  rw [Int.toNat_natCast] at h
  exact h

/-- the bytes of a text, laid over a block of that many cells -/
theorem laid_over (l : List UInt8) (W : World) (b : Nat) (M : Array Value) (hM : M.size = l.length) (hb : Blk W b M 5) :
    (Builtin.copy_ #[210, 9] 3 #[.slice (some ⟨b, 0, none⟩) l.length l.length, .string (ba l)]).run Tryz.prog W = .ok (goInt l.length) (W.setRow b (bcells l).toArray) := by
  obtain ⟨i, hi, _, h1, _⟩ := info_parts Tryz.infoU8
  have h := Lib.run_copy_row_string (P := Tryz.prog) W 210 9 3 5 b 0 l.length l.length (ba l) M 5 Tryz.underlying210 (by rw [hi]; simp [h1]) hb (by rw [ba_size]; exact Nat.le_refl _) (by rw [ba_size]; omega)
  rw [ba_size, ba_data, List.take_zero, List.nil_append, List.drop_eq_nil_of_le (by rw [Array.length_toList]; omega), List.append_nil] at h
  exact h

/-- the text of a block whose cells are bytes -/
theorem read_back (l : List UInt8) (hl : l ≠ []) (hn : l.length ≤ 1000) (W : World) (b : Nat) (hb : Blk W b (bcells l).toArray 5) :
    (Builtin.unsafeString_ #[228, 3] 9 #[.pointer (some ⟨b, 0, none⟩), .int .i64 l.length]).run Tryz.prog W = .ok (.string (ba l)) (W.freeze ⟨b, 0, none⟩ l.length) := by
  refine Lib.run_unsafeString_row (P := Tryz.prog) W 228 3 9 5 Tryz.underlying228 (by kernel_rfl) b (bcells l).toArray.size ?_ l hl (by simp [bcells]) (by omega) (fun j x hj => ?_)
  · have hb' : W.heap[b]? = some (.cells (bcells l).toArray 5 (0, 0)) := hb
    unfold World.shape?
    rw [hb']
  · rw [Addr.add_lit, Nat.zero_add]
    exact hb.cell (by simp [bcells, hj])

theorem setRow_blk {W : World} {b : Nat} {M : Array Value} {t : TypeId} (h : Blk W b M t) (Y : Array Value) : Blk (W.setRow b Y) b Y t := setRow_heap W b M Y t (0, 0) h

set_option maxHeartbeats 2000000 in
set_option maxRecDepth 100000 in
theorem copied (l : List UInt8) (w : World) (hlim : l.length ≤ 1000) :
    Calls Tryz.prog 151 #[.string (ba l)] w fun e w' => e = .returned (.string (ba l)) ∧ Below w.heap.size w w' := by
  by_cases h0 : l = []
  · subst h0
    have hz : (ba []).size = 0 := rfl
    go_enter Tryz.func151, Tryz.ntmps151
    go_wp2
    go_ret
    exact ⟨rfl, Below.refl _ _⟩
  · have hp : 0 < l.length := List.length_pos_iff.2 h0
    have hz := ba_size l
    have hne : ((l.length : Int) == 0) = false := by simp [h0]
    have hlt : (0 : Int) < (l.length : Int) := by omega
    obtain ⟨M, hM, hmk⟩ := room_for l.length hlim
    have bM := Blk.new w M 5
    have hcp := laid_over l _ _ M hM bM
    have bY := setRow_blk bM (bcells l).toArray
    have hus := read_back l h0 hlim _ _ bY
    have hb1 : Below w.heap.size w (w.alloc (.cells M 5)) := (Below.refl _ w).alloc (Nat.le_refl _) _
    have hb2 : Below w.heap.size w ((w.alloc (.cells M 5)).setRow w.heap.size (bcells l).toArray) := hb1.trans ⟨rfl, rfl, rfl, by simp, fun k hk => setRow_other _ _ _ _ (by omega)⟩
    have hb3 := Lib.below_freeze hb2 (p := ⟨w.heap.size, 0, none⟩) (Nat.le_refl _) l.length
    clear hb1 hb2 bM bY h0
    go_enter Tryz.func151, Tryz.ntmps151
    go_wp2
    go_ret
    exact ⟨rfl, hb3⟩

end Go.Proofs.YtnpaejknoipicagGreat

namespace Go.Proofs.YtnpaejknoipicagGreat
open Go.RowKit

/-- what a reader that lacks bytes panics with -/
def few : List PanicEntry := [{ v := .iface 214 (.agg #[]), recovered := false }]

theorem numberL_few (B : Nat) (l : List UInt8) (n : Int) (w : World) (hb : Blk w B #[.string (ba l)] 217) (hn : (l.length : Int) < n) :
    Calls Tryz.prog 138 #[.pointer (some ⟨B, 0, none⟩), .int .i64 n] w fun e w' => e = .panicked few ∧ w = w' :=
  number_few B (ba l) n w (hb.cell rfl) (by rw [ba_size]; exact hn)

theorem numberL_some (B : Nat) (n : Nat) (ni m : Int) (l r : List UInt8) (w : World) (hm : m = num (l.take n)) (hr : r = l.drop n) (hni : ni = (n : Int)) (hb : Blk w B #[.string (ba l)] 217) (hn : n ≤ l.length) (h4 : n ≤ 4) :
    Calls Tryz.prog 138 #[.pointer (some ⟨B, 0, none⟩), .int .i64 ni] w fun e w' =>
      e = .returned (.int .i64 m) ∧ Blk w' B #[.string (ba r)] 217 ∧ Kept [B] w w' := by
  subst hni hm hr
  refine (number_some B n (ba l) w (hb.cell rfl) (hb.free 0) (by rw [ba_size]; exact hn) h4).mono ?_
  rintro e w' ⟨rfl, hbel⟩
  rw [ba_data, ba_drop] at *
  have h1 : Blk (w.setCell ⟨B, 0, none⟩ (.string (ba (l.drop n)))) B #[.string (ba (l.drop n))] 217 := hb.set 0 _
  exact ⟨rfl, h1.below hbel hb.lt, ((Kept.refl [B] w).setCell (p := ⟨B, 0, none⟩) (by simp) _).below (by rw [World.size_setCell]; exact hbel)⟩

set_option maxHeartbeats 1000000 in
theorem strClone_any (l : List UInt8) (w : World) (hlim : l.length ≤ 1000) :
    Calls Tryz.prog 120 #[.string (ba l)] w fun e w' => e = .returned (.string (ba l)) ∧ Below w.heap.size w w' := by
  go_enter Tryz.func120, Tryz.ntmps120
  go_wp2_with (go_at_call 151; refine (copied l _ hlim).mono ?_; rintro e w' ⟨rfl, hb⟩)
  go_ret
  exact ⟨rfl, hb⟩

set_option maxHeartbeats 1000000 in
theorem textL_few (B : Nat) (l : List UInt8) (n : Int) (w : World) (hb : Blk w B #[.string (ba l)] 217) (hn : (l.length : Int) < n) :
    Calls Tryz.prog 139 #[.pointer (some ⟨B, 0, none⟩), .int .i64 n] w fun e w' => e = .panicked few ∧ w = w' := by
  have hc := hb.cell (j := 0) (u := .string (ba l)) rfl
  have hn' : ((ba l).size : Int) < n := by rw [ba_size]; exact hn
  go_enter Tryz.func139, Tryz.ntmps139
  go_wp2_with (go_at_call 160; refine (take_few B (ba l) n _ hc hn').mono ?_; rintro e w' ⟨rfl, rfl⟩)
  exact ⟨rfl, rfl, rfl⟩

set_option maxHeartbeats 1000000 in
theorem textL_some (B : Nat) (n : Nat) (x : ByteArray) (l r : List UInt8) (w : World) (hx : x = ba (l.take n)) (hr : r = l.drop n) (hb : Blk w B #[.string (ba l)] 217) (hn : n ≤ l.length) (h4 : n ≤ 255) :
    Calls Tryz.prog 139 #[.pointer (some ⟨B, 0, none⟩), .int .i64 n] w fun e w' =>
      e = .returned (.string x) ∧ Blk w' B #[.string (ba r)] 217 ∧ Kept [B] w w' := by
  subst hx hr
  have hc := hb.cell (j := 0) (u := .string (ba l)) rfl
  have hf := hb.free 0
  have ht : ∀ w : World, w.cell? ⟨B, 0, none⟩ = some (.string (ba l)) → w.frozen? ⟨B, 0, none⟩ = false → Calls Tryz.prog 160 #[.pointer (some ⟨B, 0, none⟩), .int .i64 n] w fun e w' =>
      e = .returned (.string (ba (l.take n))) ∧ w' = w.setCell ⟨B, 0, none⟩ (.string (ba (l.drop n))) := by
    intro w h1 h2
    have := take_some B n (ba l) w h1 h2 (by rw [ba_size]; exact hn)
    rw [ba_take, ba_drop] at this
    exact this
  have HT := @id (Hid _) ht
  clear ht
  have hsz : (l.take n).length ≤ 1000 := by rw [List.length_take]; omega
  have h1 : Blk (w.setCell ⟨B, 0, none⟩ (.string (ba (l.drop n)))) B #[.string (ba (l.drop n))] 217 := hb.set 0 _
  have hk : Kept [B] w (w.setCell ⟨B, 0, none⟩ (.string (ba (l.drop n)))) := (Kept.refl [B] w).setCell (p := ⟨B, 0, none⟩) (by simp) _
  go_enter Tryz.func139, Tryz.ntmps139
  go_wp2_with (first
    | (go_at_call 160; refine (HT.out _ hc hf).mono ?_; rintro e w' ⟨rfl, rfl⟩)
    | (go_at_call 120; refine (strClone_any _ _ hsz).mono ?_; rintro e w2 ⟨rfl, hb2⟩))
  go_ret
  exact ⟨rfl, h1.below hb2 h1.lt, hk.below hb2⟩

end Go.Proofs.YtnpaejknoipicagGreat

namespace Go.Proofs.YtnpaejknoipicagGreat
open Go.ChangeShapes Go.WideShapes Go.ChangeAt Go.RowKit
open Go.ChangeMaps (open_string shut_string)

section
variable {H : Type} {enc : TypeId × Value → H} {W : World} {r : Reach} {b0 base : Nat} {spare : Nat → Bool} {held : Bool} {v : Value} {d : DataW H} {p : List MemPlace}

theorem Tryz.cellsInt : Tryz.prog.cellsOf 3 = 1 := by kernel_rfl
theorem Tryz.cellsStr : Tryz.prog.cellsOf 9 = 1 := by kernel_rfl

/-- the fields of a packet within what an input can be -/
def Pk.fits (p : Pk) : Prop := (Lit.int .i64 p.seq).wf = true ∧ (Lit.int .i64 p.time).wf = true ∧ p.t.size ≤ maxLen

end

end Go.Proofs.YtnpaejknoipicagGreat

namespace Go.Proofs.YtnpaejknoipicagGreat

/-- a slot: a packet with its number -/
structure Sk where
  n : Int
  p : Pk

namespace Sk
def cells (x : Sk) : Array Value := #[.int .i64 x.n, .int .i64 x.p.seq, .int .i64 x.p.time, .bool x.p.f, .bool x.p.e, .bool x.p.k, .string x.p.t]
def val (x : Sk) : Value := .agg #[.int .i64 x.n, .int .i64 x.p.seq, .int .i64 x.p.time, .bool x.p.f, .bool x.p.e, .bool x.p.k, .string x.p.t]
def zero : Sk := ⟨0, Pk.zero⟩
instance : Inhabited Sk := ⟨zero⟩
/-- what the document says of a slot -/
def chk (x : Sk) : Int := if Cn.isNB x.n then (if x.p.chk = 0 then (if x.n % 65536 = x.p.seq then 0 else 4) else x.p.chk) else 3
theorem chk_range {x : Sk} (h : Cn.isNB x.n = false) : x.chk = 3 := by simp [chk, h]
theorem chk_pkt {x : Sk} (h : Cn.isNB x.n = true) (h2 : ¬ x.p.chk = 0) : x.chk = x.p.chk := by simp [chk, h, h2]
theorem chk_seq {x : Sk} (h : Cn.isNB x.n = true) (h2 : x.p.chk = 0) (h3 : ¬ x.n % 65536 = x.p.seq) : x.chk = 4 := by simp [chk, h, h2, h3]
theorem chk_ok {x : Sk} (h : Cn.isNB x.n = true) (h2 : x.p.chk = 0) (h3 : x.n % 65536 = x.p.seq) : x.chk = 0 := by simp [chk, h, h2, h3]
end Sk

/-- the cells of slots in a row -/
def skCells (l : List Sk) : List Value := l.flatMap fun x => x.cells.toList
theorem skCells_len (l : List Sk) : (skCells l).length = l.length * 7 := by
  induction l with
  | nil => rfl
  | cons x r ih => simp only [skCells, List.flatMap_cons, List.length_append] at ih ⊢; rw [ih]; simp [Sk.cells]; omega
theorem skCells_append (l m : List Sk) : skCells (l ++ m) = skCells l ++ skCells m := by simp [skCells]
theorem skCells_one (x : Sk) : skCells [x] = x.cells.toList := by simp [skCells]
theorem skCells_at (l : List Sk) : ∀ (k i : Nat), i < 7 → k < l.length → (skCells l)[k * 7 + i]? = ((l[k]?.getD Sk.zero).cells)[i]? := by
  induction l with
  | nil => intro k i _ h; simp at h
  | cons x r ih =>
    intro k i hi hk
    have hx : x.cells.toList.length = 7 := rfl
    simp only [skCells, List.flatMap_cons] at ih ⊢
    cases k with
    | zero =>
      rw [List.getElem?_append_left (by rw [hx]; omega)]
      simp
    | succ k =>
      rw [List.getElem?_append_right (by rw [hx]; omega), hx, show (k + 1) * 7 + i - 7 = k * 7 + i by omega, ih k i hi (by simpa using hk)]
      simp
/-- the first error of slots, one by one -/
def chkAll : List Sk → Int
  | [] => 0
  | x :: r => if x.chk = 0 then chkAll r else x.chk
theorem chkAll_append (l m : List Sk) (h : chkAll l = 0) : chkAll (l ++ m) = chkAll m := by
  induction l with
  | nil => rfl
  | cons x r ih =>
    simp only [List.cons_append, chkAll] at h ⊢
    by_cases hx : x.chk = 0
    · rw [if_pos hx] at h ⊢; exact ih h
    · rw [if_neg hx] at h; exact absurd h hx
theorem chkAll_take_no {l : List Sk} {k : Nat} (hk : k < l.length) (h : chkAll (l.take k) = 0) (hx : ¬ (l[k]?.getD Sk.zero).chk = 0) : chkAll l = (l[k]?.getD Sk.zero).chk := by
  have e : l = l.take k ++ (l[k]?.getD Sk.zero) :: l.drop (k + 1) := by
    rw [List.getElem?_eq_getElem hk, Option.getD_some, ← List.drop_eq_getElem_cons hk, List.take_append_drop]
  rw [e, chkAll_append _ _ h]
  rw [← e]
  simp only [chkAll, if_neg hx]
theorem take_one {α : Type} {l : List α} {k : Nat} (hk : k < l.length) (d : α) : l.take (k + 1) = l.take k ++ [l[k]?.getD d] := by
  rw [List.take_add_one, List.getElem?_eq_getElem hk]; rfl
theorem chkAll_take_ok {l : List Sk} {k : Nat} (hk : k < l.length) (h : chkAll (l.take k) = 0) (hx : (l[k]?.getD Sk.zero).chk = 0) : chkAll (l.take (k + 1)) = 0 := by
  rw [take_one hk Sk.zero, chkAll_append _ _ h]
  simp [chkAll, hx]

end Go.Proofs.YtnpaejknoipicagGreat

namespace Go.Proofs.YtnpaejknoipicagGreat
open Go.RowKit

set_option maxHeartbeats 400000 in
theorem isNumber_any (n : Int) (w : World) :
    Calls Tryz.prog 129 #[.int .i64 n] w fun e w' => e = .returned (.bool (Cn.isNB n)) ∧ w = w' := by
  by_cases h1 : 65536 ≤ n
  · by_cases h2 : n ≤ 1000000000
    · rw [Cn.isNB_true h1 h2]
      go_enter Tryz.func129, Tryz.ntmps129
      go_wp2
      go_ret
      exact ⟨rfl, rfl⟩
    · rw [Cn.isNB_false (.inr (by omega))]
      go_enter Tryz.func129, Tryz.ntmps129
      go_wp2
      go_ret
      exact ⟨rfl, rfl⟩
  · rw [Cn.isNB_false (.inl (by omega))]
    go_enter Tryz.func129, Tryz.ntmps129
    go_wp2
    go_ret
    exact ⟨rfl, rfl⟩

set_option maxHeartbeats 400000 in
theorem wrap_any (n : Int) (w : World) :
    Calls Tryz.prog 100 #[.int .i64 n] w fun e w' => e = .returned (.tuple #[.int .i64 (Cn.wrN n), .int .i64 (Cn.wrE n)]) ∧ w = w' := by
  cases hb : Cn.isNB n
  · have hE : Cn.wrE n = 3 := by simp [Cn.wrE, hb]
    have hN : Cn.wrN n = 0 := by simp [Cn.wrN, hb]
    rw [hE, hN]
    clear hE hN
    go_enter Tryz.func100, Tryz.ntmps100
    go_wp2_with (go_at_call 129; refine (isNumber_any _ _).mono ?_; rintro e w' ⟨rfl, rfl⟩)
    go_ret2
    exact ⟨rfl, rfl⟩
  · have hE : Cn.wrE n = 0 := by simp [Cn.wrE, hb]
    have hN : Cn.wrN n = n % 65536 := by simp [Cn.wrN, hb]
    have hr := Cn.isNB_iff.1 hb
    obtain ⟨hr1, hr2⟩ := hr
    rw [hE, hN]
    clear hE hN
    go_enter Tryz.func100, Tryz.ntmps100
    go_wp2_with (go_at_call 129; refine (isNumber_any _ _).mono ?_; rintro e w' ⟨rfl, rfl⟩)
    go_ret2
    exact ⟨rfl, rfl⟩

set_option maxHeartbeats 1000000 in
theorem unwrap_any (last seq : Int) (w : World) :
    Calls Tryz.prog 140 #[.int .i64 last, .int .i64 seq] w fun e w' => e = .returned (.tuple #[.int .i64 (Cn.uwN last seq), .int .i64 (Cn.uwE last seq)]) ∧ w = w' := by
  cases hb : Cn.isNB last
  · have hno : Cn.okB last seq = false := by simp [Cn.okB, hb]
    obtain ⟨hE, hN⟩ := Cn.uw_no hno
    rw [hE, hN]
    clear hE hN hno
    go_enter Tryz.func140, Tryz.ntmps140
    go_wp2_with (go_at_call 129; refine (isNumber_any _ _).mono ?_; rintro e w' ⟨rfl, rfl⟩)
    go_ret2
    exact ⟨rfl, rfl⟩
  · obtain ⟨hr1, hr2⟩ := Cn.isNB_iff.1 hb
    by_cases hs : 0 ≤ seq
    · by_cases hs2 : seq ≤ 65535
      · have hnear := Cn.raw_near last seq hs hs2
        cases hb2 : Cn.isNB (Cn.raw last seq)
        · have hno : Cn.okB last seq = false := by simp [Cn.okB, hb2]
          obtain ⟨hE, hN⟩ := Cn.uw_no hno
          rw [hE, hN]
          clear hE hN hno hnear
          unfold Cn.raw at hb2
          by_cases hf : 32768 < (seq - last) % 65536
          · rw [if_pos hf] at hb2
            go_enter Tryz.func140, Tryz.ntmps140
            go_wp2_with (go_at_call 129; refine (isNumber_any _ _).mono ?_; rintro e w' ⟨rfl, rfl⟩)
            go_ret2
            exact ⟨rfl, rfl⟩
          · rw [if_neg hf] at hb2
            go_enter Tryz.func140, Tryz.ntmps140
            go_wp2_with (go_at_call 129; refine (isNumber_any _ _).mono ?_; rintro e w' ⟨rfl, rfl⟩)
            go_ret2
            exact ⟨rfl, rfl⟩
        · have hno : Cn.okB last seq = true := by simp [Cn.okB, hb, hb2, hs, hs2]
          obtain ⟨hE, hN⟩ := Cn.uw_ok hno
          rw [hE, hN]
          clear hE hN hno hnear
          unfold Cn.raw at hb2 ⊢
          by_cases hf : 32768 < (seq - last) % 65536
          · rw [if_pos hf] at hb2 ⊢
            go_enter Tryz.func140, Tryz.ntmps140
            go_wp2_with (go_at_call 129; refine (isNumber_any _ _).mono ?_; rintro e w' ⟨rfl, rfl⟩)
            go_ret2
            exact ⟨rfl, rfl⟩
          · rw [if_neg hf] at hb2 ⊢
            go_enter Tryz.func140, Tryz.ntmps140
            go_wp2_with (go_at_call 129; refine (isNumber_any _ _).mono ?_; rintro e w' ⟨rfl, rfl⟩)
            go_ret2
            exact ⟨rfl, rfl⟩
      · have hno : Cn.okB last seq = false := by simp [Cn.okB, hs2]
        obtain ⟨hE, hN⟩ := Cn.uw_no hno
        rw [hE, hN]
        clear hE hN hno
        go_enter Tryz.func140, Tryz.ntmps140
        go_wp2_with (go_at_call 129; refine (isNumber_any _ _).mono ?_; rintro e w' ⟨rfl, rfl⟩)
        go_ret2
        exact ⟨rfl, rfl⟩
    · have hno : Cn.okB last seq = false := by simp [Cn.okB, hs]
      obtain ⟨hE, hN⟩ := Cn.uw_no hno
      rw [hE, hN]
      clear hE hN hno
      go_enter Tryz.func140, Tryz.ntmps140
      go_wp2_with (go_at_call 129; refine (isNumber_any _ _).mono ?_; rintro e w' ⟨rfl, rfl⟩)
      go_ret2
      exact ⟨rfl, rfl⟩

end Go.Proofs.YtnpaejknoipicagGreat

namespace Go.Proofs.YtnpaejknoipicagGreat
open Go.RowKit

set_option maxHeartbeats 1000000 in
theorem slotCheck_any (x : Sk) (w : World) :
    Calls Tryz.prog 83 #[x.val] w fun e w' => e = .returned (.int .i64 x.chk) ∧ Below w.heap.size w w' := by
  cases hb : Cn.isNB x.n
  · have hE : Cn.wrE x.n = 3 := by simp [Cn.wrE, hb]
    have hw : ∀ w : World, Calls Tryz.prog 100 #[.int .i64 x.n] w fun e w' => e = .returned (.tuple #[.int .i64 (Cn.wrN x.n), .int .i64 3]) ∧ w = w' := fun w => by rw [← hE]; exact wrap_any _ _
    rw [Sk.chk_range hb]
    clear hE hb
    obtain ⟨n, seq, time, f, e, k, t⟩ := x
    simp only [Sk.val] at hw ⊢
    go_enter Tryz.func83, Tryz.ntmps83
    go_wp2_with (go_at_call 100; refine (hw _).mono ?_; rintro e w' ⟨rfl, rfl⟩)
    go_ret
    exact ⟨rfl, by go_grown⟩
  have hE : Cn.wrE x.n = 0 := by simp [Cn.wrE, hb]
  have hN : Cn.wrN x.n = x.n % 65536 := by simp [Cn.wrN, hb]
  obtain ⟨m, hm⟩ : ∃ m, m = x.n % 65536 := ⟨_, rfl⟩
  have hw : ∀ w : World, Calls Tryz.prog 100 #[.int .i64 x.n] w fun e w' => e = .returned (.tuple #[.int .i64 m, .int .i64 0]) ∧ w = w' := fun w => by rw [← hE, hm, ← hN]; exact wrap_any _ _
  by_cases hc : x.p.chk = 0
  · have hp : ∀ w : World, Calls Tryz.prog 35 #[x.p.val] w fun e w' => e = .returned (.int .i64 0) ∧ w' = w.alloc (.cells x.p.cells 63) := fun w => by rw [← hc]; exact check_any _ _
    by_cases hs : x.n % 65536 = x.p.seq
    · have hs' : x.p.seq = m := by omega
      rw [Sk.chk_ok hb hc hs]
      clear hE hb hN hm hc hs
      obtain ⟨n, seq, time, f, e, k, t⟩ := x
      simp only [Sk.val, Pk.val, Pk.cells] at hw hp hs' ⊢
      subst hs'
      go_enter Tryz.func83, Tryz.ntmps83
      go_wp2_with (first | (go_at_call 100; refine (hw _).mono ?_; rintro e w' ⟨rfl, rfl⟩) | (go_at_call 35; refine (hp _).mono ?_; rintro e w' ⟨rfl, rfl⟩))
      go_ret
      exact ⟨rfl, by go_grown⟩
    · have hs' : ¬ x.p.seq = m := by omega
      rw [Sk.chk_seq hb hc hs]
      clear hE hb hN hm hc hs
      obtain ⟨n, seq, time, f, e, k, t⟩ := x
      simp only [Sk.val, Pk.val, Pk.cells] at hw hp hs' ⊢
      go_enter Tryz.func83, Tryz.ntmps83
      go_wp2_with (first | (go_at_call 100; refine (hw _).mono ?_; rintro e w' ⟨rfl, rfl⟩) | (go_at_call 35; refine (hp _).mono ?_; rintro e w' ⟨rfl, rfl⟩))
      go_ret
      exact ⟨rfl, by go_grown⟩
  · rw [Sk.chk_pkt hb hc]
    obtain ⟨c, hcc⟩ : ∃ c, c = x.p.chk := ⟨_, rfl⟩
    have hp : ∀ w : World, Calls Tryz.prog 35 #[x.p.val] w fun e w' => e = .returned (.int .i64 c) ∧ w' = w.alloc (.cells x.p.cells 63) := fun w => by rw [hcc]; exact check_any _ _
    rw [← hcc] at hc ⊢
    clear hE hb hN hm hcc
    obtain ⟨n, seq, time, f, e, k, t⟩ := x
    simp only [Sk.val, Pk.val, Pk.cells] at hw hp ⊢
    go_enter Tryz.func83, Tryz.ntmps83
    go_wp2_with (first | (go_at_call 100; refine (hw _).mono ?_; rintro e w' ⟨rfl, rfl⟩) | (go_at_call 35; refine (hp _).mono ?_; rintro e w' ⟨rfl, rfl⟩))
    go_ret
    exact ⟨rfl, by go_grown⟩

end Go.Proofs.YtnpaejknoipicagGreat

namespace Go.Proofs.YtnpaejknoipicagGreat
open Go.RowKit

theorem Tryz.infoU8c : (Tryz.prog.info? 5).map (fun i => (i.zero, i.size, i.bytes)) = some (some (.int .u8 0), 1, 1) := by kernel_rfl

set_option maxHeartbeats 2000000 in
set_option maxRecDepth 100000 in
theorem clone_any (s : ByteArray) (w : World) (hlim : s.size ≤ 8) :
    Calls Tryz.prog 151 #[.string s] w fun e w' => e = .returned (.string s) ∧ Below w.heap.size w w' := by
  by_cases h0 : s.size = 0
  · have hs : s = ⟨#[]⟩ := ByteArray.ext (Array.eq_empty_of_size_eq_zero h0)
    subst hs
    go_enter Tryz.func151, Tryz.ntmps151
    go_wp2
    go_ret
    exact ⟨rfl, Below.refl _ _⟩
  obtain ⟨i0, hi, hz0, hz1, hz2⟩ := info_parts Tryz.infoU8c
  have hinf : (Tryz.prog.info? 5).map (·.size) = some 1 := by rw [hi]; simp [hz1]
  have hco : Tryz.prog.cellsOf 5 = 1 := by kernel_rfl
  obtain ⟨M, hM⟩ : ∃ M, M = madeCells (Value.int .u8 0).cells (((s.size : Nat) : Int).toNat * i0.size) := ⟨_, rfl⟩
  have hMs : M.size = s.size := by rw [hM, size_madeCells, hz1]; simp
  have hmk : ∀ W : World, (Instr.makeSlice 210 (.int .i64 (s.size : Int)) (.int .i64 (s.size : Int))).run Tryz.prog W = .ok (.slice (some ⟨W.heap.size, 0, none⟩) s.size s.size) (W.alloc (.cells M 5)) := fun W => by
    have h := run_make (P := Tryz.prog) W 210 5 i0 (.int .u8 0) Tryz.underlying210 hi hz0 .i64 .i64 (s.size : Int) (s.size : Int) (by omega) (by omega) (by rw [hz2]; omega) (by omega)
    rw [← hM] at h
    simpa using h
  have hcp := Lib.run_copy_row_string (P := Tryz.prog) (w.alloc (.cells M 5)) 210 9 3 5 w.heap.size 0 s.size s.size s M 5 Tryz.underlying210 hinf (heap_alloc_new w _) (Nat.le_refl _) (by omega)
  obtain ⟨Y, hY⟩ : ∃ Y, Y = (M.toList.take 0 ++ Lib.byteCells s.data.toList ++ M.toList.drop (0 + s.size)).toArray := ⟨_, rfl⟩
  rw [← hY] at hcp
  have hYl : Y.toList = Lib.byteCells s.data.toList := by
    rw [hY, List.toList_toArray, List.take_zero, List.nil_append, List.drop_of_length_le (by rw [Array.length_toList]; omega), List.append_nil]
  have hYs : Y.size = s.size := by rw [← Array.length_toList, hYl, Lib.byteCells_length]; rfl
  have hg : ((w.alloc (.cells M 5)).setRow w.heap.size Y).heap[w.heap.size]? = some (.cells Y 5 (0, 0)) := setRow_heap _ _ M _ 5 (0, 0) (heap_alloc_new w _)
  have hne : s.data.toList ≠ [] := fun e => h0 (by have : s.size = s.data.toList.length := rfl; rw [this, e]; rfl)
  have hsz : s.data.toList.length = s.size := rfl
  have hus := Lib.run_unsafeString_row (P := Tryz.prog) ((w.alloc (.cells M 5)).setRow w.heap.size Y) 228 3 9 5 Tryz.underlying228 hco w.heap.size Y.size (by unfold World.shape?; rw [hg]) s.data.toList hne (by omega) (by omega)
    (fun j x hx => Lib.cells_of_row hg Y.size j _ (by rw [List.take_of_length_le (by rw [Array.length_toList]; exact Nat.le_refl _), hYl]; simp [Lib.byteCells, hx]))
  rw [hsz] at hus
  clear hY hM
  go_enter Tryz.func151, Tryz.ntmps151
  go_wp2
  go_ret
  have b1 : Below w.heap.size w (w.alloc (.cells M 5)) := (Below.refl _ w).alloc (Nat.le_refl _) _
  have b2 : Below w.heap.size (w.alloc (.cells M 5)) ((w.alloc (.cells M 5)).setRow w.heap.size Y) := ⟨rfl, rfl, rfl, by simp, fun k hk => setRow_other _ _ _ _ (by omega)⟩
  exact ⟨rfl, Lib.below_freeze (b1.trans b2) (p := ⟨w.heap.size, 0, none⟩) (Nat.le_refl _) _⟩

theorem stringsClone_any (s : ByteArray) (w : World) (hlim : s.size ≤ 8) :
    Calls Tryz.prog 120 #[.string s] w fun e w' => e = .returned (.string s) ∧ Below w.heap.size w w' := by
  go_enter Tryz.func120, Tryz.ntmps120
  go_wp2_with (go_at_call 151; refine (clone_any _ _ hlim).mono ?_; rintro e w' ⟨rfl, hb⟩)
  go_ret
  exact ⟨rfl, hb⟩

theorem Blk.seven {w : World} {b : Nat} {t : TypeId} {x0 x1 x2 x3 x4 x5 x6 : Value} (h : Blk w b #[x0, x1, x2, x3, x4, x5, x6] t) :
    w.cell? ⟨b, 0, none⟩ = some x0 ∧ w.cell? ⟨b, 1, none⟩ = some x1 ∧ w.cell? ⟨b, 2, none⟩ = some x2 ∧ w.cell? ⟨b, 3, none⟩ = some x3 ∧ w.cell? ⟨b, 4, none⟩ = some x4 ∧ w.cell? ⟨b, 5, none⟩ = some x5 ∧ w.cell? ⟨b, 6, none⟩ = some x6 :=
  ⟨h.cell rfl, h.cell rfl, h.cell rfl, h.cell rfl, h.cell rfl, h.cell rfl, h.cell rfl⟩

set_option maxHeartbeats 2000000 in
theorem slotCopy_any (x : Sk) (w : World) (hlim : x.p.t.size ≤ 8) :
    Calls Tryz.prog 85 #[x.val] w fun e w' => e = .returned x.val ∧ Below w.heap.size w w' := by
  obtain ⟨n, seq, time, f, e, k, t⟩ := x
  simp only [Sk.val] at hlim ⊢
  go_enter Tryz.func85, Tryz.ntmps85
  go_wp2_with fail
  refine (stringsClone_any t _ hlim).mono ?_
  rintro r w1 ⟨rfl, hb⟩
  have k0 := (((Blk.new w #[.int .i64 n, .int .i64 seq, .int .i64 time, .bool f, .bool e, .bool k, .string t] 106).alloc (.cells #[.int .i64 0, .int .i64 0, .int .i64 0, .bool false, .bool false, .bool false, .string ⟨#[]⟩] 106)).below hb (by simp; omega))
  have k1 := ((Blk.new (w.alloc (.cells #[.int .i64 n, .int .i64 seq, .int .i64 time, .bool f, .bool e, .bool k, .string t] 106)) #[.int .i64 0, .int .i64 0, .int .i64 0, .bool false, .bool false, .bool false, .string ⟨#[]⟩] 106)).below hb (by simp)
  have hbw : Below w.heap.size w w1 := (((Below.refl _ w).alloc (Nat.le_refl _) _).alloc (by simp) _).trans (hb.mono (by simp; omega))
  simp only [World.size_alloc] at k1
  have f0 := k0.free
  have f1 := k1.free
  obtain ⟨c0, c1, c2, c3, c4, c5, c6⟩ := k0.seven
  obtain ⟨d0, d1, d2, d3, d4, d5, d6⟩ := k1.seven
  have hbe : Hid (Below w.heap.size w w1) := hbw
  clear hb hbw k0 k1
  go_wp2
  exact bodyPost_ret (v := .agg #[.int .i64 n, .int .i64 seq, .int .i64 time, .bool f, .bool e, .bool k, .string t]) (by simp [results, Tryz.results85, go_sem, d0, d1, d2, d3, d4, d5, d6]) rfl ⟨rfl, by
    have h := hbe.out
    exact ((((((((h.setCell (by simp) _).setCell (by simp) _).setCell (by simp) _).setCell (by simp) _).setCell (by simp) _).setCell (by simp) _).setCell (by simp) _).setCell (by simp) _)⟩

end Go.Proofs.YtnpaejknoipicagGreat

namespace Go.Proofs.YtnpaejknoipicagGreat
open Go.RowKit

theorem Tryz.infoSlot : (Tryz.prog.info? 106).map (fun i => (i.zero, i.size, i.bytes)) = some (some (.agg #[.int .i64 0, .int .i64 0, .int .i64 0, .bool false, .bool false, .bool false, .string ByteArray.empty]), 7, 48) := by kernel_rfl

/-- v shows these slots in world w -/
def Sls (w : World) (v : Value) (l : List Sk) : Prop := Sl w v l.length 7 (skCells l)

theorem Sls.below {w w' : World} {v : Value} {l : List Sk} (h : Sls w v l) (hb : Below w.heap.size w w') : Sls w' v l := Sl.below h hb
theorem Sls.len {w : World} {v : Value} {l : List Sk} (h : Sls w v l) : ∃ a c, v = .slice a l.length c := Sl.len h
theorem Sls.nil (w : World) : Sls w (.slice none 0 0) [] := ⟨rfl, .inl ⟨rfl, none, 0, rfl⟩⟩
theorem Sls.of_owns {w : World} {base : Nat} {v : Value} {l : List Sk} (h : w.ownsRow base 106 7 v l.length (skCells l)) : Sls w v l := Sl.of_owns h

/-- a slot's seven cells from an address on -/
def At7 (w : World) (b off : Nat) (x : Sk) : Prop :=
  w.cell? ⟨b, off, none⟩ = some (.int .i64 x.n) ∧ w.cell? ⟨b, off + 1, none⟩ = some (.int .i64 x.p.seq) ∧ w.cell? ⟨b, off + 2, none⟩ = some (.int .i64 x.p.time) ∧ w.cell? ⟨b, off + 3, none⟩ = some (.bool x.p.f) ∧
  w.cell? ⟨b, off + 4, none⟩ = some (.bool x.p.e) ∧ w.cell? ⟨b, off + 5, none⟩ = some (.bool x.p.k) ∧ w.cell? ⟨b, off + 6, none⟩ = some (.string x.p.t)

theorem Sls.parts {w : World} {v : Value} {l : List Sk} (h : Sls w v l) :
    ∃ ao c, v = .slice ao l.length c ∧ ∀ k, k < l.length → ∃ b off, ao = some ⟨b, off, none⟩ ∧ b < w.heap.size ∧ At7 w b (off + k * 7) (l[k]?.getD Sk.zero) := by
  obtain ⟨hl, ⟨h0, a, c, rfl⟩ | ⟨b, off, c, rfl, hb, hc⟩⟩ := h
  · exact ⟨a, c, by rw [h0], fun k hk => by omega⟩
  · refine ⟨_, c, rfl, fun k hk => ⟨b, off, rfl, hb, ?_⟩⟩
    have g : ∀ i u, i < 7 → ((l[k]?.getD Sk.zero).cells)[i]? = some u → w.cell? ⟨b, off + k * 7 + i, none⟩ = some u := fun i u hi hu => by
      rw [Nat.add_assoc]
      exact hc (k * 7 + i) u (by rw [skCells_at l k i hi hk]; exact hu)
    exact ⟨g 0 _ (by omega) rfl, g 1 _ (by omega) rfl, g 2 _ (by omega) rfl, g 3 _ (by omega) rfl, g 4 _ (by omega) rfl, g 5 _ (by omega) rfl, g 6 _ (by omega) rfl⟩

theorem At7.below {w w' : World} {b off B : Nat} {x : Sk} (h : At7 w b off x) (hb : Below B w w') (hB : b < B) : At7 w' b off x := by
  have g : ∀ j u, w.cell? ⟨b, j, none⟩ = some u → w'.cell? ⟨b, j, none⟩ = some u := fun j u hu => (hb.cell (p := ⟨b, j, none⟩) hB).trans hu
  obtain ⟨h0, h1, h2, h3, h4, h5, h6⟩ := h
  exact ⟨g _ _ h0, g _ _ h1, g _ _ h2, g _ _ h3, g _ _ h4, g _ _ h5, g _ _ h6⟩

/-- a row of the call's own, where its block is as it was -/
theorem owns_same {w w' : World} {base : Nat} {e : TypeId} {size : Nat} {v : Value} {n : Nat} {xs : List Value} (h : w.ownsRow base e size v n xs) (hs : ∀ g, v.ownBlock = some g → w'.heap[g]? = w.heap[g]?) : w'.ownsRow base e size v n xs := by
  obtain ⟨hl, h | ⟨g, cap, cur, rfl, hb, hh, h1, h2, h3, h4⟩⟩ := h
  · exact ⟨hl, .inl h⟩
  · exact ⟨hl, .inr ⟨g, cap, cur, rfl, hb, (hs g rfl).trans hh, h1, h2, h3, h4⟩⟩
theorem owns_below {w w' : World} {base B : Nat} {e : TypeId} {size : Nat} {v : Value} {n : Nat} {xs : List Value} (h : w.ownsRow base e size v n xs) (hb : Below B w w') (hB : w.heap.size ≤ B) : w'.ownsRow base e size v n xs :=
  owns_same h fun g hg => hb.block g (by have := (h.lt g hg).2; omega)

/-- one new slot, as append's law asks it -/
theorem newSlot {w : World} {x : Sk} {t : TypeId} {n : Nat} (hn : n = w.heap.size) : ∀ j u, x.cells.toList[j]? = some u → (w.alloc (.cells x.cells t)).cell? ((⟨n, 0, none⟩ : Addr).add j) = some u := by
  intro j u hj
  subst hn
  rw [Addr.add_lit, Nat.zero_add, World.cell?_alloc_new]
  simpa using hj
theorem oneSlot (x : Sk) : ∀ u ∈ x.cells.toList, u.oneCell' = true := by
  intro u hu
  simp [Sk.cells] at hu
  rcases hu with h | h | h | h | h | h | h <;> subst h <;> rfl

set_option maxHeartbeats 2000000 in
set_option maxRecDepth 1000000 in
theorem copyAll_any (v : Value) (l : List Sk) (w : World) (hv : Sls w v l) (hlen : l.length ≤ 1000) (hshort : ∀ x ∈ l, x.p.t.size ≤ 8) :
    Calls Tryz.prog 68 #[v] w fun e w' => ∃ u, e = .returned u ∧ w'.ownsRow w.heap.size 106 7 u l.length (skCells l) ∧ Below w.heap.size w w' := by
  obtain ⟨i0, hi, hz0, hz1, hz2⟩ := info_parts Tryz.infoSlot
  obtain ⟨ao, c, rfl, hc⟩ := hv.parts
  have HC : Hid (∀ k, k < l.length → ∃ b off, ao = some ⟨b, off, none⟩ ∧ b < w.heap.size ∧ At7 w b (off + k * 7) (l[k]?.getD Sk.zero)) := hc
  have HS : Hid (∀ k, k < l.length → (l[k]?.getD Sk.zero).p.t.size ≤ 8) := fun k hk => hshort _ (by rw [List.getElem?_eq_getElem hk]; exact List.getElem_mem hk)
  obtain ⟨n, hn⟩ : ∃ n, n = l.length := ⟨_, rfl⟩
  have HN : Hid (n = l.length) := hn
  rw [← hn] at hlen ⊢
  clear hc hv hn hshort
  go_enter Tryz.func68, Tryz.ntmps68
  go_wp2
  go_loopw [3, 8] (fun v i wr => ∃ k : Nat, k ≤ n ∧ i = .int .i64 k ∧ Hid (wr.ownsRow w.heap.size 106 7 v k (skCells (l.take k))) ∧ Below w.heap.size w wr)
    (fun _ i _ => n - (intOf i).toNat)
  case atStart => exact ⟨0, Nat.zero_le _, rfl, (show World.ownsRow _ _ _ _ _ _ _ from World.ownsRow_nil _ _ _ _), Below.refl _ _⟩
  case round =>
    obtain ⟨k, hk, rfl, HO, hbel⟩ := hrel
    by_cases hlt : k < n
    · obtain ⟨b, off, rfl, hb, hat⟩ := HC.out k (by rw [← HN.out]; exact hlt)
      have hsh := HS.out k (by rw [← HN.out]; exact hlt)
      obtain ⟨c0, c1, c2, c3, c4, c5, c6⟩ := hat.below hbel hb
      obtain ⟨x, hx⟩ : ∃ x, x = l[k]?.getD Sk.zero := ⟨_, rfl⟩
      rw [← hx] at c0 c1 c2 c3 c4 c5 c6 hsh
      have HX : Hid (x = l[k]?.getD Sk.zero) := hx
      have hcp : ∀ w : World, Calls Tryz.prog 85 #[x.val] w fun e w' => e = .returned x.val ∧ Below w.heap.size w w' := fun w => slotCopy_any x w hsh
      clear hx hat
      obtain ⟨xn, seq, time, xf, xe, xk, xt⟩ := x
      simp only [Sk.val] at hcp c0 c1 c2 c3 c4 c5 c6
      have HB : Hid (Below w.heap.size w wr) := hbel
      clear hbel
      go_wp2_with (first
        | (go_at_call 85; refine (hcp _).mono ?_; rintro e w1 ⟨rfl, hbw⟩)
        | (at_builtin; refine wpList_append_own _ rfl _ _ 22 rfl w.heap.size 106 i0 _ 7 48 Tryz.underlying22 hi hz0 hz1 hz2 rfl (by decide) _ k (skCells (l.take k)) rfl ?c0 ⟨w1.heap.size, 0, none⟩ 1 1 (Sk.cells ⟨xn, seq, time, xf, xe, xk, xt⟩).toList rfl rfl ?c1 ?c2 ?c3 ?c4 ?c5 ?_))
      case c0 => exact (owns_below (HO.out.alloc _) hbw (Nat.le_refl _)).alloc _
      case c1 => exact newSlot rfl
      case c2 => exact oneSlot _
      case c3 => unfold maxLen; omega
      case c4 => omega
      case c5 => have h1 := HB.out.size; have h2 := hbw.size; simp at h2 ⊢; omega
      · intro v' w2 hown' hgrow _
        have h1 := HB.out.size
        have h2 := hbw.size
        have hb1 : Below w.heap.size w w1 := HB.out.trans (((Below.refl _ _).alloc h1 _).trans (hbw.mono (by simp; omega)))
        have R1 : Hid (Below w.heap.size w w2) := (hb1.alloc (by have := hb1.size; omega) _).grown hgrow (by have := hb1.size; simp; omega) (fun j hj => (HO.out.lt j hj).1)
        have R2 : Hid (w2.ownsRow w.heap.size 106 7 v' (k + 1) (skCells (l.take (k + 1)))) := by
          show w2.ownsRow w.heap.size 106 7 v' (k + 1) (skCells (l.take (k + 1)))
          rw [take_one (by rw [← HN.out]; exact hlt) Sk.zero, skCells_append, ← HX.out, skCells_one]
          exact hown'
        clear hown' hgrow c0 c1 c2 c3 c4 c5 c6 hbw hb1 h1 h2 HO HX
        go_wp2
        go_roundw
        case rel => exact ⟨k + 1, by omega, by go_num, R2, R1.out⟩
        case measure => simp [intOf]; omega
    · have hkl : k = n := by omega
      subst hkl
      go_wp2
      go_ret
      have ho := HO.out
      rw [HN.out, List.take_length, ← HN.out] at ho
      exact ⟨_, rfl, ho, hbel⟩

end Go.Proofs.YtnpaejknoipicagGreat

namespace Go.Proofs.YtnpaejknoipicagGreat
open Go.RowKit

/-- the place of the first one, or -1 -/
def idxOf (p : Sk → Bool) (l : List Sk) : Int := match l.findIdx? p with
  | some i => i
  | none => -1

/-- a closure that tells p of a slot, and changes nothing that was there -/
def Tells (g : Nat) (lb : Array Value) (p : Sk → Bool) (w : World) : Prop :=
  ∀ (W : World) (x : Sk), Below w.heap.size w W → Calls Tryz.prog g (#[x.val] ++ lb) W fun e w' => e = .returned (.bool (p x)) ∧ Below W.heap.size W w'

theorem idxOf_hit {p : Sk → Bool} {l : List Sk} {k : Nat} (hk : k < l.length) (hno : ∀ j, j < k → p (l[j]?.getD Sk.zero) = false) (hp : p (l[k]?.getD Sk.zero) = true) : idxOf p l = k := by
  have : l.findIdx? p = some k := by
    rw [List.findIdx?_eq_some_iff_getElem]
    refine ⟨hk, by rw [List.getElem?_eq_getElem hk] at hp; exact hp, fun j hj => ?_⟩
    have := hno j hj
    rw [List.getElem?_eq_getElem (by omega), Option.getD_some] at this
    rw [this]; simp
  simp [idxOf, this]
theorem idxOf_miss {p : Sk → Bool} {l : List Sk} (hno : ∀ j, j < l.length → p (l[j]?.getD Sk.zero) = false) : idxOf p l = -1 := by
  have : l.findIdx? p = none := by
    rw [List.findIdx?_eq_none_iff]
    intro x hx
    obtain ⟨j, hj, rfl⟩ := List.getElem_of_mem hx
    have := hno j hj
    rw [List.getElem?_eq_getElem hj] at this
    exact this
  simp [idxOf, this]
theorem idxOf_any (p : Sk → Bool) (l : List Sk) : decide (0 ≤ idxOf p l) = l.any p := by
  unfold idxOf
  cases h : l.findIdx? p with
  | none =>
    have h2 : l.any p = false := by rw [List.findIdx?_eq_none_iff] at h; simpa using h
    simp [h2]
  | some i =>
    have h2 : l.any p = true := by
      rw [List.findIdx?_eq_some_iff_getElem] at h
      obtain ⟨h1, h2, _⟩ := h
      exact List.any_eq_true.2 ⟨l[i], List.getElem_mem h1, h2⟩
    simp [h2]

set_option maxHeartbeats 1600000 in
theorem indexFunc_any (g : Nat) (lb : Array Value) (p : Sk → Bool) (eg : Enters Tryz.prog g) (v : Value) (l : List Sk) (w : World) (hv : Sls w v l) (hlen : l.length ≤ 9223372036854775807) (hp : Tells g lb p w) :
    Calls Tryz.prog 175 #[v, .func (.func g) #[] lb] w fun e w' => e = .returned (.int .i64 (idxOf p l)) ∧ Below w.heap.size w w' := by
  obtain ⟨ao, c, rfl, hc⟩ := hv.parts
  have HC : Hid (∀ k, k < l.length → ∃ b off, ao = some ⟨b, off, none⟩ ∧ b < w.heap.size ∧ At7 w b (off + k * 7) (l[k]?.getD Sk.zero)) := hc
  have HP : Hid (Tells g lb p w) := hp
  obtain ⟨n, hn⟩ : ∃ n, n = l.length := ⟨_, rfl⟩
  have HN : Hid (n = l.length) := hn
  have eg' : ∀ (args : Array Value) (w : World), (callFunc g args).run Tryz.prog w = .ok (.enter g args) w := eg
  rw [← hn] at hlen ⊢
  clear hc hv hn hp eg
  go_enter Tryz.func175, Tryz.ntmps175
  go_wp2
  go_loopw [8] (fun i wr => ∃ k : Nat, k ≤ n ∧ i = .int .i64 k ∧ Hid (∀ j, j < k → p (l[j]?.getD Sk.zero) = false) ∧ Below w.heap.size w wr)
    (fun i _ => n - (intOf i).toNat)
  case atStart => exact ⟨0, Nat.zero_le _, rfl, (show ∀ j, j < 0 → _ from fun j hj => absurd hj (Nat.not_lt_zero _)), Below.refl _ _⟩
  case round =>
    obtain ⟨k, hk, rfl, HK, hbel⟩ := hrel
    by_cases hlt : k < n
    · obtain ⟨b, off, rfl, hb, hat⟩ := HC.out k (by rw [← HN.out]; exact hlt)
      obtain ⟨c0, c1, c2, c3, c4, c5, c6⟩ := hat.below hbel hb
      obtain ⟨x, hx⟩ : ∃ x, x = l[k]?.getD Sk.zero := ⟨_, rfl⟩
      rw [← hx] at c0 c1 c2 c3 c4 c5 c6
      have HX : Hid (x = l[k]?.getD Sk.zero) := hx
      obtain ⟨t, ht⟩ : ∃ t, t = p x := ⟨_, rfl⟩
      have HT : Hid (t = p x) := ht
      have hcall := HP.out wr x hbel
      rw [← ht] at hcall
      clear hx hat ht
      obtain ⟨xn, seq, time, xf, xe, xk, xt⟩ := x
      simp only [Sk.val] at hcall c0 c1 c2 c3 c4 c5 c6
      have HB : Hid (Below w.heap.size w wr) := hbel
      clear hbel
      cases t
      · go_wp2_with (go_at_fn g; refine hcall.mono ?_; rintro e w1 ⟨rfl, hbw⟩)
        go_roundw
        case rel =>
          refine ⟨k + 1, by omega, by go_num, (show ∀ j, j < k + 1 → _ from fun j hj => ?_), HB.out.trans (hbw.mono HB.out.size)⟩
          by_cases e : j = k
          · subst e
            rw [← HX.out]; exact HT.out.symm
          · exact HK.out j (by omega)
        case measure => simp [intOf]; omega
      · go_wp2_with (go_at_fn g; refine hcall.mono ?_; rintro e w1 ⟨rfl, hbw⟩)
        go_ret
        exact ⟨by rw [idxOf_hit (by rw [← HN.out]; exact hlt) HK.out (by rw [← HX.out]; exact HT.out.symm)]; rfl, HB.out.trans (hbw.mono HB.out.size)⟩
    · have hkl : k = n := by omega
      subst hkl
      go_wp2
      go_ret
      exact ⟨by rw [idxOf_miss (fun j hj => HK.out j (by rw [HN.out]; exact hj))]; rfl, hbel⟩

theorem containsFunc_any (g : Nat) (lb : Array Value) (p : Sk → Bool) (eg : Enters Tryz.prog g) (v : Value) (l : List Sk) (w : World) (hv : Sls w v l) (hlen : l.length ≤ 9223372036854775807) (hp : Tells g lb p w) :
    Calls Tryz.prog 173 #[v, .func (.func g) #[] lb] w fun e w' => e = .returned (.bool (l.any p)) ∧ Below w.heap.size w w' := by
  rw [← idxOf_any]
  have hix := indexFunc_any g lb p eg v l w hv hlen hp
  obtain ⟨r, hr⟩ : ∃ r, r = idxOf p l := ⟨_, rfl⟩
  rw [← hr] at hix ⊢
  clear hr
  obtain ⟨a, c, rfl⟩ := hv.len
  go_enter Tryz.func173, Tryz.ntmps173
  go_wp2_with (go_at_call 175; refine hix.mono ?_; rintro e w1 ⟨rfl, hbw⟩)
  go_ret
  exact ⟨rfl, hbw⟩

end Go.Proofs.YtnpaejknoipicagGreat
