/-
 copy between rows of elements of several cells; append inside a region that draws its order.
-/
import Derived.WalkKit
import Derived.WalkSpells
import Derived.Test.YtnpaejknoipicagGreatRows
import Derived.ProofKit
import Derived.OpenShut
import Derived.ShutString
import Derived.ChangeOld
import Derived.Below
import Derived.SizedLaws
import Derived.WalkLawsBesides
import Derived.Handy
import Derived.Test.YtnpaejknoipicagGreatRefBetween
import Derived.Lib.BufferWrite
import Derived.Lib.UnsafeStr
import Derived.Laws.MakeOwn
import Derived.Deep.Slices
import Derived.Shelf.Abstract
import Derived.Lib.QuietBelow
import Derived.Deep.QuietTactic
import Derived.BigQuiet
import Derived.Deep.LoopGhost
import Derived.Laws.CopyRow
import Derived.Deep.RegionLaw
namespace Go.Proofs.YtnpaejknoipicagGreat
open Go.RowKit
def Sl (w : World) (v : Value) (n size : Nat) (xs : List Value) : Prop :=
 xs.length = n * size ∧ ((n = 0 ∧ ∃ a c, v = .slice a 0 c) ∨
  ∃ b off c, v = .slice (some ⟨b, off, none⟩) n c ∧ b < w.heap.size ∧ ∀ j u, xs[j]? = some u → w.cell? ⟨b, off + j, none⟩ = some u)
theorem Sl.below {w w' : World} {v : Value} {n size : Nat} {xs : List Value} (h : Sl w v n size xs) (hb : Below w.heap.size w w') : Sl w' v n size xs := by
 obtain ⟨hl, h | ⟨b, off, c, rfl, hlt, hc⟩⟩ := h
 ·exact ⟨hl, .inl h⟩
 ·exact ⟨hl, .inr ⟨b, off, c, rfl, Nat.lt_of_lt_of_le hlt hb.size, fun j u hj => (hb.cell (p := ⟨b, off + j, none⟩) hlt).trans (hc j u hj)⟩⟩
theorem Sl.of_owns {w : World} {base : Nat} {e : TypeId} {size : Nat} {v : Value} {n : Nat} {xs : List Value} (h : w.ownsRow base e size v n xs) : Sl w v n size xs := by
 obtain ⟨hl, ⟨rfl, rfl⟩ | ⟨g, cap, cur, rfl, hb, hh, hn, hm, hs, ht⟩⟩ := h
 ·exact ⟨hl, .inl ⟨rfl, none, 0, rfl⟩⟩
 ·refine ⟨hl, .inr ⟨g, 0, cap, rfl, lt_of_block hh, fun j u hj => ?_⟩⟩
  have hlt : j < xs.length := by
   cases h : decide (j < xs.length)
   ·simp at h; rw [List.getElem?_eq_none h] at hj; cases hj
   ·exact of_decide_eq_true h
  have : cur.toList[j]? = some u := by
   rw [← ht, List.getElem?_take] at hj
   rw [if_pos (by omega)] at hj
   exact hj
  simp [World.cell?, hh]
  simpa using this
theorem Sl.new (w : World) (cs : Array Value) (t : TypeId) (n size c : Nat) (h : cs.size = n * size) : Sl (w.alloc (.cells cs t)) (.slice (some ⟨w.heap.size, 0, none⟩) n c) n size cs.toList :=
 ⟨by simpa using h, .inr ⟨w.heap.size, 0, c, rfl, by simp, fun j u hj => by rw [Nat.zero_add, World.cell?_alloc_new]; simpa using hj⟩⟩
theorem Sl.len {w : World} {v : Value} {n size : Nat} {xs : List Value} (h : Sl w v n size xs) : ∃ a c, v = .slice a n c := by
 obtain ⟨_, ⟨rfl, a, c, rfl⟩ | ⟨b, off, c, rfl, _, _⟩⟩ := h
 ·exact ⟨_, _, rfl⟩
 ·exact ⟨_, _, rfl⟩
theorem Sl.parts {w : World} {v : Value} {n size : Nat} {xs : List Value} (h : Sl w v n size xs) :
  ∃ ao c, v = .slice ao n c ∧ ∀ j u, xs[j]? = some u → ∃ b off, ao = some ⟨b, off, none⟩ ∧ b < w.heap.size ∧ w.cell? ⟨b, off + j, none⟩ = some u := by
 obtain ⟨hl, ⟨rfl, a, c, rfl⟩ | ⟨b, off, c, rfl, hb, hc⟩⟩ := h
 ·exact ⟨a, c, rfl, fun j u hj => by rw [Nat.zero_mul] at hl; rw [List.eq_nil_of_length_eq_zero hl] at hj; cases hj⟩
 ·exact ⟨_, c, rfl, fun j u hj => ⟨b, off, rfl, hb, hc j u hj⟩⟩
theorem Sl.ints {w : World} {v : Value} {zs : List Int} {k : IntKind} (h : Sl w v zs.length 1 (zs.map (Value.int k))) :
  ∃ ao c, v = .slice ao zs.length c ∧ ∀ j, j < zs.length → ∃ b off, ao = some ⟨b, off, none⟩ ∧ b < w.heap.size ∧ w.cell? ⟨b, off + j, none⟩ = some (.int k (zs[j]?.getD 0)) := by
 obtain ⟨ao, c, hv, hc⟩ := h.parts
 exact ⟨ao, c, hv, fun j hj => hc j _ (by simp [List.getElem?_eq_getElem hj])⟩
def Boxed (w : World) (b : Nat) (C : Array Value) : Prop := b < w.heap.size ∧ ∀ j u, C[j]? = some u → w.cell? ⟨b, j, none⟩ = some u
theorem Boxed.new (w : World) (C : Array Value) (t : TypeId) : Boxed (w.alloc (.cells C t)) w.heap.size C :=
 ⟨by simp, fun j u h => by rw [World.cell?_alloc_new]; exact h⟩
theorem Boxed.alloc {w : World} {b : Nat} {C : Array Value} (h : Boxed w b C) (o : Obj) : Boxed (w.alloc o) b C :=
 ⟨by have := h.1; simp; omega, fun j u hj => (World.cell?_alloc_past _ _ _ h.1).trans (h.2 j u hj)⟩
theorem Boxed.below {w w' : World} {b B : Nat} {C : Array Value} (h : Boxed w b C) (hb : Below B w w') (hB : b < B) : Boxed w' b C :=
 ⟨Nat.lt_of_lt_of_le h.1 hb.size, fun j u hj => (hb.cell (p := ⟨b, j, none⟩) hB).trans (h.2 j u hj)⟩
theorem Boxed.six {w : World} {b : Nat} {x0 x1 x2 x3 x4 x5 : Value} (h : Boxed w b #[x0, x1, x2, x3, x4, x5]) :
  w.cell? ⟨b, 0, none⟩ = some x0 ∧ w.cell? ⟨b, 1, none⟩ = some x1 ∧ w.cell? ⟨b, 2, none⟩ = some x2 ∧ w.cell? ⟨b, 3, none⟩ = some x3 ∧ w.cell? ⟨b, 4, none⟩ = some x4 ∧ w.cell? ⟨b, 5, none⟩ = some x5 :=
 ⟨h.2 0 _ rfl, h.2 1 _ rfl, h.2 2 _ rfl, h.2 3 _ rfl, h.2 4 _ rfl, h.2 5 _ rfl⟩
theorem news1 {w : World} {x : Value} {t : TypeId} {n : Nat} (hn : n = w.heap.size) : ∀ j u, [x][j]? = some u → (w.alloc (.cells #[x] t)).cell? ((⟨n, 0, none⟩ : Addr).add j) = some u := by
 intro j u hj
 match j, hj with
 | 0, hj => simp at hj; subst hj; subst hn; simp [Addr.add]
theorem one1 {k : IntKind} {n : Int} : ∀ u ∈ [Value.int k n], u.oneCell' = true := by
 intro u hu; simp at hu; subst hu; rfl
end Go.Proofs.YtnpaejknoipicagGreat
namespace Go.Proofs.YtnpaejknoipicagGreat
open Go.ChangeShapes Go.WideShapes Go.ChangeAt Go.RowKit
open Go.ChangeMaps (open_string shut_string)
theorem own : ownKnob Tryz.prog.godebug = none := by kernel_rfl
theorem laidOut : laidOutB Tryz.prog = true := by kernel_rfl
section
variable {H : Type} {enc : TypeId × Value → H} {P : Program} {W : World} {r : Reach} {b0 : Nat} {t e : TypeId} {v : Value} {d : DataW H} {p : List MemPlace}
theorem op_int (ht : P.underlying t = some (.int .i64)) (hval : Value.okWide P W r b0 t v) (h : DataW.Trod enc P W 0 (fun _ => true) true t v d p) :
  ∃ a, v = .int .i64 a ∧ (Lit.int .i64 a).wf = true := by
 obtain ⟨a, rfl, _, _, w0⟩ := open_int ht hval h
 exact ⟨a, rfl, w0⟩
end
end Go.Proofs.YtnpaejknoipicagGreat
namespace Go.Proofs.YtnpaejknoipicagGreat
structure Pk where
 seq : Int
 time : Int
 f : Bool
 e : Bool
 k : Bool
 t : ByteArray
namespace Pk
def cells (p : Pk) : Array Value := #[.int .i64 p.seq, .int .i64 p.time, .bool p.f, .bool p.e, .bool p.k, .string p.t]
def val (p : Pk) : Value := .agg #[.int .i64 p.seq, .int .i64 p.time, .bool p.f, .bool p.e, .bool p.k, .string p.t]
def zero : Pk := ⟨0, 0, false, false, false, ByteArray.empty⟩
def chk (p : Pk) : Int :=
 if p.seq < 0 then 3 else if 65535 < p.seq then 3 else if p.time < 0 then 3 else if 1000000 < p.time then 3 else if 8 < (p.t.size : Int) then 2 else if p.k && !p.f then 4 else 0
end Pk
def byteU (n : Int) (i : Nat) : UInt8 := UInt8.ofNat (n / 2 ^ (8 * i) % 256).toNat
theorem byteU_toNat (n : Int) (i : Nat) : ((byteU n i).toNat : Int) = n / 2 ^ (8 * i) % 256 := by
 have h1 : 0 ≤ n / 2 ^ (8 * i) % 256 := Int.emod_nonneg _ (by decide)
 have h2 : n / 2 ^ (8 * i) % 256 < 256 := Int.emod_lt_of_pos _ (by decide)
 unfold byteU
 rw [UInt8.toNat_ofNat', Nat.mod_eq_of_lt (by omega)]
 omega
def beK (n : Int) (size k : Nat) : List UInt8 := (List.range k).map fun j => byteU n (size - 1 - j)
def be (n : Int) (size : Nat) : List UInt8 := beK n size size
def bcells (l : List UInt8) : List Value := l.map fun b => Value.int .u8 b.toNat
def ba (l : List UInt8) : ByteArray := ⟨l.toArray⟩
theorem ba_size (l : List UInt8) : (ba l).size = l.length := by simp [ba, ByteArray.size]
theorem ba_data (l : List UInt8) : (ba l).data.toList = l := by simp [ba]
theorem ba_take (l : List UInt8) (n : Nat) : (ba l).extract 0 n = ba (l.take n) := by
 apply ByteArray.ext; simp [ba]
theorem ba_drop (l : List UInt8) (n : Nat) : (ba l).extract n (ba l).size = ba (l.drop n) := by
 rw [ba_size]; apply ByteArray.ext; simp [ba, List.take_of_length_le]
theorem ba_of (s : ByteArray) : ba s.data.toList = s := by cases s; simp [ba]
end Go.Proofs.YtnpaejknoipicagGreat
namespace Go.Proofs.YtnpaejknoipicagGreat
namespace Cn
def isNB (n : Int) : Bool := decide (65536 ≤ n ∧ n ≤ 1000000000)
theorem isNB_true {n : Int} (h1 : 65536 ≤ n) (h2 : n ≤ 1000000000) : isNB n = true := by simp [isNB]; omega
theorem isNB_false {n : Int} (h : n < 65536 ∨ 1000000000 < n) : isNB n = false := by simp [isNB]; omega
theorem isNB_iff {n : Int} : isNB n = true ↔ 65536 ≤ n ∧ n ≤ 1000000000 := by simp [isNB]
def raw (last seq : Int) : Int :=
 if 32768 < (seq - last) % 65536 then last + ((seq - last) % 65536 - 65536) else last + (seq - last) % 65536
def okB (last seq : Int) : Bool := isNB last && decide (0 ≤ seq) && decide (seq ≤ 65535) && isNB (raw last seq)
def uwE (last seq : Int) : Int := if okB last seq then 0 else 3
def uwN (last seq : Int) : Int := if okB last seq then raw last seq else 0
theorem okB_iff {last seq : Int} : okB last seq = true ↔ (65536 ≤ last ∧ last ≤ 1000000000) ∧ 0 ≤ seq ∧ seq ≤ 65535 ∧ 65536 ≤ raw last seq ∧ raw last seq ≤ 1000000000 := by
 simp [okB, isNB]; omega
theorem uw_ok {last seq : Int} (h : okB last seq = true) : uwE last seq = 0 ∧ uwN last seq = raw last seq := by simp [uwE, uwN, h]
theorem uw_no {last seq : Int} (h : okB last seq = false) : uwE last seq = 3 ∧ uwN last seq = 0 := by simp [uwE, uwN, h]
theorem raw_near (last seq : Int) (h : 0 ≤ seq) (h2 : seq ≤ 65535) : raw last seq % 65536 = seq ∧ last - 32767 ≤ raw last seq ∧ raw last seq ≤ last + 32768 := by
 unfold raw; split <;> omega
theorem raw_uniq (last seq n : Int) (h : n % 65536 = seq) (h1 : last - 32767 ≤ n) (h2 : n ≤ last + 32768) : raw last seq = n := by
 unfold raw; split <;> omega
def wrE (n : Int) : Int := if isNB n then 0 else 3
def wrN (n : Int) : Int := if isNB n then n % 65536 else 0
def lastOf : Int → List Int → Int
 | d, [] => d
 | _, x :: r => lastOf x r
theorem lastOf_snoc (l : List Int) (x : Int) : ∀ d, lastOf d (l ++ [x]) = x := by
 induction l with
 | nil => intro d; rfl
 | cons y r ih => intro d; exact ih y
def goes : Int → List Int → Option (List Int)
 | _, [] => some []
 | last, x :: r => if okB last x then (goes (raw last x) r).map (raw last x :: ·) else none
def allE (first : Int) (l : List Int) : Int := if (goes first l).isSome then 0 else 3
def allL (first : Int) (l : List Int) : List Int := (goes first l).getD []
theorem goes_append (l m : List Int) : ∀ first, goes first (l ++ m) = (goes first l).bind fun o => (goes (lastOf first o) m).map (o ++ ·) := by
 induction l with
 | nil => intro first; simp [goes, lastOf]
 | cons x r ih =>
  intro first
  simp only [List.cons_append, goes]
  by_cases h : okB first x = true
  ·simp only [h, if_true, ih]
   cases hg : goes (raw first x) r with
   | none => simp
   | some o => simp [lastOf]; rfl
  ·simp [h]
theorem goes_length (l : List Int) : ∀ first o, goes first l = some o → o.length = l.length := by
 induction l with
 | nil => intro first o h; simp [goes] at h; subst h; rfl
 | cons x r ih =>
  intro first o h
  simp only [goes] at h
  split at h
  ·cases hg : goes (raw first x) r with
   | none => simp [hg] at h
   | some q => simp [hg] at h; subst h; simp [ih _ _ hg]
  ·cases h
theorem goes_snoc_ok {first x : Int} {l o : List Int} (h : goes first l = some o) (hx : okB (lastOf first o) x = true) : goes first (l ++ [x]) = some (o ++ [raw (lastOf first o) x]) := by
 rw [goes_append, h]; simp [goes, hx]
theorem goes_snoc_no {first x : Int} {l o m : List Int} (h : goes first l = some o) (hx : okB (lastOf first o) x = false) : goes first (l ++ x :: m) = none := by
 rw [goes_append, h]; simp [goes, hx]
theorem take_snoc (l : List Int) (k : Nat) (h : k < l.length) : l.take (k + 1) = l.take k ++ [l[k]?.getD 0] := by
 rw [List.take_add_one, List.getElem?_eq_getElem h]; rfl
theorem take_drop_at (l : List Int) (k : Nat) (h : k < l.length) : l = l.take k ++ (l[k]?.getD 0) :: l.drop (k + 1) := by
 conv => lhs; rw [← List.take_append_drop k l]
 rw [List.drop_eq_getElem_cons h]; simp [List.getElem?_eq_getElem h]
theorem allE_some {first : Int} {l o : List Int} (h : goes first l = some o) : allE first l = 0 ∧ allL first l = o := by simp [allE, allL, h]
theorem allE_none {first : Int} {l : List Int} (h : goes first l = none) : allE first l = 3 ∧ allL first l = [] := by simp [allE, allL, h]
end Cn
end Go.Proofs.YtnpaejknoipicagGreat
namespace Go.Proofs.YtnpaejknoipicagGreat
structure Sk where
 n : Int
 p : Pk
namespace Sk
def cells (x : Sk) : Array Value := #[.int .i64 x.n, .int .i64 x.p.seq, .int .i64 x.p.time, .bool x.p.f, .bool x.p.e, .bool x.p.k, .string x.p.t]
def val (x : Sk) : Value := .agg #[.int .i64 x.n, .int .i64 x.p.seq, .int .i64 x.p.time, .bool x.p.f, .bool x.p.e, .bool x.p.k, .string x.p.t]
def zero : Sk := ⟨0, Pk.zero⟩
instance : Inhabited Sk := ⟨zero⟩
def chk (x : Sk) : Int := if Cn.isNB x.n then (if x.p.chk = 0 then (if x.n % 65536 = x.p.seq then 0 else 4) else x.p.chk) else 3
theorem chk_range {x : Sk} (h : Cn.isNB x.n = false) : x.chk = 3 := by simp [chk, h]
theorem chk_pkt {x : Sk} (h : Cn.isNB x.n = true) (h2 : ¬ x.p.chk = 0) : x.chk = x.p.chk := by simp [chk, h, h2]
theorem chk_seq {x : Sk} (h : Cn.isNB x.n = true) (h2 : x.p.chk = 0) (h3 : ¬ x.n % 65536 = x.p.seq) : x.chk = 4 := by simp [chk, h, h2, h3]
theorem chk_ok {x : Sk} (h : Cn.isNB x.n = true) (h2 : x.p.chk = 0) (h3 : x.n % 65536 = x.p.seq) : x.chk = 0 := by simp [chk, h, h2, h3]
end Sk
def skCells (l : List Sk) : List Value := l.flatMap fun x => x.cells.toList
theorem skCells_len (l : List Sk) : (skCells l).length = l.length * 7 := by
 induction l with
 | nil => rfl
 | cons x r ih => simp only [skCells, List.flatMap_cons, List.length_append] at ih ⊢; rw [ih]; simp [Sk.cells]; omega
theorem skCells_append (l m : List Sk) : skCells (l ++ m) = skCells l ++ skCells m := by simp [skCells]
theorem skCells_one (x : Sk) : skCells [x] = x.cells.toList := by simp [skCells]
theorem skCells_at (l : List Sk) : ∀ (k i : Nat), i < 7 → k < l.length → (skCells l)[k * 7 + i]? = ((l[k]?.getD Sk.zero).cells)[i]? := by
 induction l with
 | nil => intro k i _ h; simp at h
 | cons x r ih =>
  intro k i hi hk
  have hx : x.cells.toList.length = 7 := rfl
  simp only [skCells, List.flatMap_cons] at ih ⊢
  cases k with
  | zero =>
   rw [List.getElem?_append_left (by rw [hx]; omega)]
   simp
  | succ k =>
   rw [List.getElem?_append_right (by rw [hx]; omega), hx, show (k + 1) * 7 + i - 7 = k * 7 + i by omega, ih k i hi (by simpa using hk)]
   simp
def chkAll : List Sk → Int
 | [] => 0
 | x :: r => if x.chk = 0 then chkAll r else x.chk
theorem chkAll_append (l m : List Sk) (h : chkAll l = 0) : chkAll (l ++ m) = chkAll m := by
 induction l with
 | nil => rfl
 | cons x r ih =>
  simp only [List.cons_append, chkAll] at h ⊢
  by_cases hx : x.chk = 0
  ·rw [if_pos hx] at h ⊢; exact ih h
  ·rw [if_neg hx] at h; exact absurd h hx
theorem chkAll_take_no {l : List Sk} {k : Nat} (hk : k < l.length) (h : chkAll (l.take k) = 0) (hx : ¬ (l[k]?.getD Sk.zero).chk = 0) : chkAll l = (l[k]?.getD Sk.zero).chk := by
 have e : l = l.take k ++ (l[k]?.getD Sk.zero) :: l.drop (k + 1) := by
  rw [List.getElem?_eq_getElem hk, Option.getD_some, ← List.drop_eq_getElem_cons hk, List.take_append_drop]
 rw [e, chkAll_append _ _ h]
 rw [← e]
 simp only [chkAll, if_neg hx]
theorem take_one {α : Type} {l : List α} {k : Nat} (hk : k < l.length) (d : α) : l.take (k + 1) = l.take k ++ [l[k]?.getD d] := by
 rw [List.take_add_one, List.getElem?_eq_getElem hk]; rfl
theorem chkAll_take_ok {l : List Sk} {k : Nat} (hk : k < l.length) (h : chkAll (l.take k) = 0) (hx : (l[k]?.getD Sk.zero).chk = 0) : chkAll (l.take (k + 1)) = 0 := by
 rw [take_one hk Sk.zero, chkAll_append _ _ h]
 simp [chkAll, hx]
end Go.Proofs.YtnpaejknoipicagGreat
namespace Go.Proofs.YtnpaejknoipicagGreat
open Go.RowKit
set_option maxHeartbeats 1000000 in
theorem check_any (p : Pk) (w : World) :
  Calls Tryz.prog 35 #[p.val] w fun e w' => e = .returned (.int .i64 p.chk) ∧ w' = w.alloc (.cells p.cells 63) := by
 obtain ⟨seq, time, f, e, k, t⟩ := p
 simp only [Pk.val, Pk.cells, Pk.chk]
 by_cases h1 : seq < 0
 ·rw [if_pos h1]
  go_enter Tryz.func35, Tryz.ntmps35
  go_wp2
  go_ret
  exact ⟨rfl, rfl⟩
 rw [if_neg h1]
 by_cases h2 : 65535 < seq
 ·rw [if_pos h2]
  go_enter Tryz.func35, Tryz.ntmps35
  go_wp2
  go_ret
  exact ⟨rfl, rfl⟩
 rw [if_neg h2]
 by_cases h3 : time < 0
 ·rw [if_pos h3]
  go_enter Tryz.func35, Tryz.ntmps35
  go_wp2
  go_ret
  exact ⟨rfl, rfl⟩
 rw [if_neg h3]
 by_cases h4 : 1000000 < time
 ·rw [if_pos h4]
  go_enter Tryz.func35, Tryz.ntmps35
  go_wp2
  go_ret
  exact ⟨rfl, rfl⟩
 rw [if_neg h4]
 by_cases h5 : 8 < (t.size : Int)
 ·rw [if_pos h5]
  go_enter Tryz.func35, Tryz.ntmps35
  go_wp2
  go_ret
  exact ⟨rfl, rfl⟩
 rw [if_neg h5]
 cases k
 ·go_enter Tryz.func35, Tryz.ntmps35
  go_wp2
  go_ret
  exact ⟨rfl, rfl⟩
 ·cases f
  ·go_enter Tryz.func35, Tryz.ntmps35
   go_wp2
   go_ret
   exact ⟨rfl, rfl⟩
  ·go_enter Tryz.func35, Tryz.ntmps35
   go_wp2
   go_ret
   exact ⟨rfl, rfl⟩
set_option maxHeartbeats 400000 in
theorem isNumber_any (n : Int) (w : World) :
  Calls Tryz.prog 129 #[.int .i64 n] w fun e w' => e = .returned (.bool (Cn.isNB n)) ∧ w = w' := by
 by_cases h1 : 65536 ≤ n
 ·by_cases h2 : n ≤ 1000000000
  ·rw [Cn.isNB_true h1 h2]
   go_enter Tryz.func129, Tryz.ntmps129
   go_wp2
   go_ret
   exact ⟨rfl, rfl⟩
  ·rw [Cn.isNB_false (.inr (by omega))]
   go_enter Tryz.func129, Tryz.ntmps129
   go_wp2
   go_ret
   exact ⟨rfl, rfl⟩
 ·rw [Cn.isNB_false (.inl (by omega))]
  go_enter Tryz.func129, Tryz.ntmps129
  go_wp2
  go_ret
  exact ⟨rfl, rfl⟩
set_option maxHeartbeats 400000 in
theorem wrap_any (n : Int) (w : World) :
  Calls Tryz.prog 100 #[.int .i64 n] w fun e w' => e = .returned (.tuple #[.int .i64 (Cn.wrN n), .int .i64 (Cn.wrE n)]) ∧ w = w' := by
 cases hb : Cn.isNB n
 ·have hE : Cn.wrE n = 3 := by simp [Cn.wrE, hb]
  have hN : Cn.wrN n = 0 := by simp [Cn.wrN, hb]
  rw [hE, hN]
  clear hE hN
  go_enter Tryz.func100, Tryz.ntmps100
  go_wp2_with (go_at_call 129; refine (isNumber_any _ _).mono ?_; rintro e w' ⟨rfl, rfl⟩)
  go_ret2
  exact ⟨rfl, rfl⟩
 ·have hE : Cn.wrE n = 0 := by simp [Cn.wrE, hb]
  have hN : Cn.wrN n = n % 65536 := by simp [Cn.wrN, hb]
  have hr := Cn.isNB_iff.1 hb
  obtain ⟨hr1, hr2⟩ := hr
  rw [hE, hN]
  clear hE hN
  go_enter Tryz.func100, Tryz.ntmps100
  go_wp2_with (go_at_call 129; refine (isNumber_any _ _).mono ?_; rintro e w' ⟨rfl, rfl⟩)
  go_ret2
  exact ⟨rfl, rfl⟩
set_option maxHeartbeats 1000000 in
theorem unwrap_any (last seq : Int) (w : World) :
  Calls Tryz.prog 140 #[.int .i64 last, .int .i64 seq] w fun e w' => e = .returned (.tuple #[.int .i64 (Cn.uwN last seq), .int .i64 (Cn.uwE last seq)]) ∧ w = w' := by
 cases hb : Cn.isNB last
 ·have hno : Cn.okB last seq = false := by simp [Cn.okB, hb]
  obtain ⟨hE, hN⟩ := Cn.uw_no hno
  rw [hE, hN]
  clear hE hN hno
  go_enter Tryz.func140, Tryz.ntmps140
  go_wp2_with (go_at_call 129; refine (isNumber_any _ _).mono ?_; rintro e w' ⟨rfl, rfl⟩)
  go_ret2
  exact ⟨rfl, rfl⟩
 ·obtain ⟨hr1, hr2⟩ := Cn.isNB_iff.1 hb
  by_cases hs : 0 ≤ seq
  ·by_cases hs2 : seq ≤ 65535
   ·have hnear := Cn.raw_near last seq hs hs2
    cases hb2 : Cn.isNB (Cn.raw last seq)
    ·have hno : Cn.okB last seq = false := by simp [Cn.okB, hb2]
     obtain ⟨hE, hN⟩ := Cn.uw_no hno
     rw [hE, hN]
     clear hE hN hno hnear
     unfold Cn.raw at hb2
     by_cases hf : 32768 < (seq - last) % 65536
     ·rw [if_pos hf] at hb2
      go_enter Tryz.func140, Tryz.ntmps140
      go_wp2_with (go_at_call 129; refine (isNumber_any _ _).mono ?_; rintro e w' ⟨rfl, rfl⟩)
      go_ret2
      exact ⟨rfl, rfl⟩
     ·rw [if_neg hf] at hb2
      go_enter Tryz.func140, Tryz.ntmps140
      go_wp2_with (go_at_call 129; refine (isNumber_any _ _).mono ?_; rintro e w' ⟨rfl, rfl⟩)
      go_ret2
      exact ⟨rfl, rfl⟩
    ·have hno : Cn.okB last seq = true := by simp [Cn.okB, hb, hb2, hs, hs2]
     obtain ⟨hE, hN⟩ := Cn.uw_ok hno
     rw [hE, hN]
     clear hE hN hno hnear
     unfold Cn.raw at hb2 ⊢
     by_cases hf : 32768 < (seq - last) % 65536
     ·rw [if_pos hf] at hb2 ⊢
      go_enter Tryz.func140, Tryz.ntmps140
      go_wp2_with (go_at_call 129; refine (isNumber_any _ _).mono ?_; rintro e w' ⟨rfl, rfl⟩)
      go_ret2
      exact ⟨rfl, rfl⟩
     ·rw [if_neg hf] at hb2 ⊢
      go_enter Tryz.func140, Tryz.ntmps140
      go_wp2_with (go_at_call 129; refine (isNumber_any _ _).mono ?_; rintro e w' ⟨rfl, rfl⟩)
      go_ret2
      exact ⟨rfl, rfl⟩
   ·have hno : Cn.okB last seq = false := by simp [Cn.okB, hs2]
    obtain ⟨hE, hN⟩ := Cn.uw_no hno
    rw [hE, hN]
    clear hE hN hno
    go_enter Tryz.func140, Tryz.ntmps140
    go_wp2_with (go_at_call 129; refine (isNumber_any _ _).mono ?_; rintro e w' ⟨rfl, rfl⟩)
    go_ret2
    exact ⟨rfl, rfl⟩
  ·have hno : Cn.okB last seq = false := by simp [Cn.okB, hs]
   obtain ⟨hE, hN⟩ := Cn.uw_no hno
   rw [hE, hN]
   clear hE hN hno
   go_enter Tryz.func140, Tryz.ntmps140
   go_wp2_with (go_at_call 129; refine (isNumber_any _ _).mono ?_; rintro e w' ⟨rfl, rfl⟩)
   go_ret2
   exact ⟨rfl, rfl⟩
set_option maxHeartbeats 1000000 in
theorem slotCheck_any (x : Sk) (w : World) :
  Calls Tryz.prog 83 #[x.val] w fun e w' => e = .returned (.int .i64 x.chk) ∧ Below w.heap.size w w' := by
 cases hb : Cn.isNB x.n
 ·have hE : Cn.wrE x.n = 3 := by simp [Cn.wrE, hb]
  have hw : ∀ w : World, Calls Tryz.prog 100 #[.int .i64 x.n] w fun e w' => e = .returned (.tuple #[.int .i64 (Cn.wrN x.n), .int .i64 3]) ∧ w = w' := fun w => by rw [← hE]; exact wrap_any _ _
  rw [Sk.chk_range hb]
  clear hE hb
  obtain ⟨n, seq, time, f, e, k, t⟩ := x
  simp only [Sk.val] at hw ⊢
  go_enter Tryz.func83, Tryz.ntmps83
  go_wp2_with (go_at_call 100; refine (hw _).mono ?_; rintro e w' ⟨rfl, rfl⟩)
  go_ret
  exact ⟨rfl, by go_grown⟩
 have hE : Cn.wrE x.n = 0 := by simp [Cn.wrE, hb]
 have hN : Cn.wrN x.n = x.n % 65536 := by simp [Cn.wrN, hb]
 obtain ⟨m, hm⟩ : ∃ m, m = x.n % 65536 := ⟨_, rfl⟩
 have hw : ∀ w : World, Calls Tryz.prog 100 #[.int .i64 x.n] w fun e w' => e = .returned (.tuple #[.int .i64 m, .int .i64 0]) ∧ w = w' := fun w => by rw [← hE, hm, ← hN]; exact wrap_any _ _
 by_cases hc : x.p.chk = 0
 ·have hp : ∀ w : World, Calls Tryz.prog 35 #[x.p.val] w fun e w' => e = .returned (.int .i64 0) ∧ w' = w.alloc (.cells x.p.cells 63) := fun w => by rw [← hc]; exact check_any _ _
  by_cases hs : x.n % 65536 = x.p.seq
  ·have hs' : x.p.seq = m := by omega
   rw [Sk.chk_ok hb hc hs]
   clear hE hb hN hm hc hs
   obtain ⟨n, seq, time, f, e, k, t⟩ := x
   simp only [Sk.val, Pk.val, Pk.cells] at hw hp hs' ⊢
   subst hs'
   go_enter Tryz.func83, Tryz.ntmps83
   go_wp2_with (first | (go_at_call 100; refine (hw _).mono ?_; rintro e w' ⟨rfl, rfl⟩) | (go_at_call 35; refine (hp _).mono ?_; rintro e w' ⟨rfl, rfl⟩))
   go_ret
   exact ⟨rfl, by go_grown⟩
  ·have hs' : ¬ x.p.seq = m := by omega
   rw [Sk.chk_seq hb hc hs]
   clear hE hb hN hm hc hs
   obtain ⟨n, seq, time, f, e, k, t⟩ := x
   simp only [Sk.val, Pk.val, Pk.cells] at hw hp hs' ⊢
   go_enter Tryz.func83, Tryz.ntmps83
   go_wp2_with (first | (go_at_call 100; refine (hw _).mono ?_; rintro e w' ⟨rfl, rfl⟩) | (go_at_call 35; refine (hp _).mono ?_; rintro e w' ⟨rfl, rfl⟩))
   go_ret
   exact ⟨rfl, by go_grown⟩
 ·rw [Sk.chk_pkt hb hc]
  obtain ⟨c, hcc⟩ : ∃ c, c = x.p.chk := ⟨_, rfl⟩
  have hp : ∀ w : World, Calls Tryz.prog 35 #[x.p.val] w fun e w' => e = .returned (.int .i64 c) ∧ w' = w.alloc (.cells x.p.cells 63) := fun w => by rw [hcc]; exact check_any _ _
  rw [← hcc] at hc ⊢
  clear hE hb hN hm hcc
  obtain ⟨n, seq, time, f, e, k, t⟩ := x
  simp only [Sk.val, Pk.val, Pk.cells] at hw hp ⊢
  go_enter Tryz.func83, Tryz.ntmps83
  go_wp2_with (first | (go_at_call 100; refine (hw _).mono ?_; rintro e w' ⟨rfl, rfl⟩) | (go_at_call 35; refine (hp _).mono ?_; rintro e w' ⟨rfl, rfl⟩))
  go_ret
  exact ⟨rfl, by go_grown⟩
def Blk (w : World) (b : Nat) (C : Array Value) (t : TypeId) : Prop := w.heap[b]? = some (.cells C t (0, 0))
theorem Blk.lt {w : World} {b : Nat} {C : Array Value} {t : TypeId} (h : Blk w b C t) : b < w.heap.size := lt_of_block h
theorem Blk.cell {w : World} {b : Nat} {C : Array Value} {t : TypeId} (h : Blk w b C t) {j : Nat} {u : Value} (hj : C[j]? = some u) : w.cell? ⟨b, j, none⟩ = some u := by
 have h' : w.heap[b]? = some (.cells C t (0, 0)) := h
 simp [World.cell?, h', hj]
theorem Blk.free {w : World} {b : Nat} {C : Array Value} {t : TypeId} (h : Blk w b C t) (j : Nat) : w.frozen? ⟨b, j, none⟩ = false := by
 have h' : w.heap[b]? = some (.cells C t (0, 0)) := h
 simp [World.frozen?, h']
theorem Blk.new (w : World) (C : Array Value) (t : TypeId) : Blk (w.alloc (.cells C t)) w.heap.size C t := heap_alloc_new w _
theorem Blk.alloc {w : World} {b : Nat} {C : Array Value} {t : TypeId} (h : Blk w b C t) (o : Obj) : Blk (w.alloc o) b C t := (Below.heap_alloc w o b h.lt).trans h
theorem Blk.drew {w : World} {b : Nat} {C : Array Value} {t : TypeId} (h : Blk w b C t) : Blk w.drew b C t := h
theorem Blk.below {w w' : World} {b B : Nat} {C : Array Value} {t : TypeId} (h : Blk w b C t) (hb : Below B w w') (hB : b < B) : Blk w' b C t := (hb.block b hB).trans h
theorem Blk.other {w : World} {b : Nat} {C : Array Value} {t : TypeId} (h : Blk w b C t) {a : Addr} (ha : b ≠ a.block) (v : Value) : Blk (w.setCell a v) b C t := (Below.heap_setCell w a v b ha).trans h
theorem Blk.set {w : World} {b : Nat} {C : Array Value} {t : TypeId} (h : Blk w b C t) (i : Nat) (v : Value) : Blk (w.setCell ⟨b, i, none⟩ v) b (C.setIfInBounds i v) t := by
 have h' : w.heap[b]? = some (.cells C t (0, 0)) := h
 have hlt := h.lt
 unfold Blk World.setCell
 simp only [Array.getElem?_modify]
 simp [h']
structure Kept (S : List Nat) (w w' : World) : Prop where
 os : w'.os = w.os
 tape : w'.tape = w.tape
 output : w'.output = w.output
 size : w.heap.size ≤ w'.heap.size
 block : ∀ k, k < w.heap.size → k ∉ S → w'.heap[k]? = w.heap[k]?
theorem Kept.refl (S : List Nat) (w : World) : Kept S w w := ⟨rfl, rfl, rfl, Nat.le_refl _, fun _ _ _ => rfl⟩
theorem Kept.trans {S : List Nat} {a b c : World} (h : Kept S a b) (k : Kept S b c) : Kept S a c :=
 ⟨k.os.trans h.os, k.tape.trans h.tape, k.output.trans h.output, Nat.le_trans h.size k.size, fun j hj hS => (k.block j (Nat.lt_of_lt_of_le hj h.size) hS).trans (h.block j hj hS)⟩
theorem Kept.below {S : List Nat} {a b c : World} (h : Kept S a b) (k : Below b.heap.size b c) : Kept S a c :=
 ⟨k.os.trans h.os, k.tape.trans h.tape, k.output.trans h.output, Nat.le_trans h.size k.size, fun j hj hS => (k.block j (Nat.lt_of_lt_of_le hj h.size)).trans (h.block j hj hS)⟩
theorem Kept.setCell {S : List Nat} {a b : World} (h : Kept S a b) {p : Addr} (hp : p.block ∈ S) (v : Value) : Kept S a (b.setCell p v) :=
 ⟨h.os, h.tape, h.output, by simpa using h.size, fun j hj hS => (Below.heap_setCell b p v j (fun e => hS (e ▸ hp))).trans (h.block j hj hS)⟩
theorem Kept.alloc {S : List Nat} {a b : World} (h : Kept S a b) (o : Obj) : Kept S a (b.alloc o) :=
 ⟨h.os, h.tape, h.output, by have := h.size; simp; omega, fun j hj hS => (Below.heap_alloc b o j (Nat.lt_of_lt_of_le hj h.size)).trans (h.block j hj hS)⟩
theorem Kept.drew {S : List Nat} {a b : World} (h : Kept S a b) : Kept S a b.drew := ⟨h.os, h.tape, h.output, h.size, h.block⟩
theorem Kept.more {S S' : List Nat} {a b c : World} (h : Kept S a b) (k : Kept S' b c) (hS : ∀ j ∈ S', j < a.heap.size → j ∈ S) : Kept S a c :=
 ⟨k.os.trans h.os, k.tape.trans h.tape, k.output.trans h.output, Nat.le_trans h.size k.size, fun j hj hn => (k.block j (Nat.lt_of_lt_of_le hj h.size) (fun hm => hn (hS j hm hj))).trans (h.block j hj hn)⟩
theorem Kept.setNew {S : List Nat} {a b : World} (h : Kept S a b) {p : Addr} (hp : a.heap.size ≤ p.block) (v : Value) : Kept S a (b.setCell p v) :=
 ⟨h.os, h.tape, h.output, by simpa using h.size, fun j hj hS => (Below.heap_setCell b p v j (by omega)).trans (h.block j hj hS)⟩
theorem Blk.kept {S : List Nat} {w w' : World} {b : Nat} {C : Array Value} {t : TypeId} (h : Blk w b C t) (hk : Kept S w w') (hS : b ∉ S) : Blk w' b C t := (hk.block b h.lt hS).trans h
theorem Kept.toBelow {S : List Nat} {w w' : World} {B : Nat} (h : Kept S w w') (hB : B ≤ w.heap.size) (hS : ∀ k ∈ S, B ≤ k) : Below B w w' :=
 ⟨h.os, h.tape, h.output, h.size, fun k hk => h.block k (by omega) (fun hm => by have := hS k hm; omega)⟩
theorem Tryz.infoU8c : (Tryz.prog.info? 5).map (fun i => (i.zero, i.size, i.bytes)) = some (some (.int .u8 0), 1, 1) := by kernel_rfl
set_option maxHeartbeats 2000000 in
set_option maxRecDepth 100000 in
theorem clone_any (s : ByteArray) (w : World) (hlim : s.size ≤ 8) :
  Calls Tryz.prog 151 #[.string s] w fun e w' => e = .returned (.string s) ∧ Below w.heap.size w w' := by
 by_cases h0 : s.size = 0
 ·have hs : s = ⟨#[]⟩ := ByteArray.ext (Array.eq_empty_of_size_eq_zero h0)
  subst hs
  go_enter Tryz.func151, Tryz.ntmps151
  go_wp2
  go_ret
  exact ⟨rfl, Below.refl _ _⟩
 obtain ⟨i0, hi, hz0, hz1, hz2⟩ := info_parts Tryz.infoU8c
 have hinf : (Tryz.prog.info? 5).map (·.size) = some 1 := by rw [hi]; simp [hz1]
 have hco : Tryz.prog.cellsOf 5 = 1 := by kernel_rfl
 obtain ⟨M, hM⟩ : ∃ M, M = madeCells (Value.int .u8 0).cells (((s.size : Nat) : Int).toNat * i0.size) := ⟨_, rfl⟩
 have hMs : M.size = s.size := by rw [hM, size_madeCells, hz1]; simp
 have hmk : ∀ W : World, (Instr.makeSlice 210 (.int .i64 (s.size : Int)) (.int .i64 (s.size : Int))).run Tryz.prog W = .ok (.slice (some ⟨W.heap.size, 0, none⟩) s.size s.size) (W.alloc (.cells M 5)) := fun W => by
  have h := run_make (P := Tryz.prog) W 210 5 i0 (.int .u8 0) Tryz.underlying210 hi hz0 .i64 .i64 (s.size : Int) (s.size : Int) (by omega) (by omega) (by rw [hz2]; omega) (by omega)
  rw [← hM] at h
  simpa using h
 have hcp := Lib.run_copy_row_string (P := Tryz.prog) (w.alloc (.cells M 5)) 210 9 3 5 w.heap.size 0 s.size s.size s M 5 Tryz.underlying210 hinf (heap_alloc_new w _) (Nat.le_refl _) (by omega)
 obtain ⟨Y, hY⟩ : ∃ Y, Y = (M.toList.take 0 ++ Lib.byteCells s.data.toList ++ M.toList.drop (0 + s.size)).toArray := ⟨_, rfl⟩
 rw [← hY] at hcp
 have hYl : Y.toList = Lib.byteCells s.data.toList := by
  rw [hY, List.toList_toArray, List.take_zero, List.nil_append, List.drop_of_length_le (by rw [Array.length_toList]; omega), List.append_nil]
 have hYs : Y.size = s.size := by rw [← Array.length_toList, hYl, Lib.byteCells_length]; rfl
 have hg : ((w.alloc (.cells M 5)).setRow w.heap.size Y).heap[w.heap.size]? = some (.cells Y 5 (0, 0)) := setRow_heap _ _ M _ 5 (0, 0) (heap_alloc_new w _)
 have hne : s.data.toList ≠ [] := fun e => h0 (by have : s.size = s.data.toList.length := rfl; rw [this, e]; rfl)
 have hsz : s.data.toList.length = s.size := rfl
 have hus := Lib.run_unsafeString_row (P := Tryz.prog) ((w.alloc (.cells M 5)).setRow w.heap.size Y) 228 3 9 5 Tryz.underlying228 hco w.heap.size Y.size (by unfold World.shape?; rw [hg]) s.data.toList hne (by omega) (by omega)
  (fun j x hx => Lib.cells_of_row hg Y.size j _ (by rw [List.take_of_length_le (by rw [Array.length_toList]; exact Nat.le_refl _), hYl]; simp [Lib.byteCells, hx]))
 rw [hsz] at hus
 clear hY hM
 go_enter Tryz.func151, Tryz.ntmps151
 go_wp2
 go_ret
 have b1 : Below w.heap.size w (w.alloc (.cells M 5)) := (Below.refl _ w).alloc (Nat.le_refl _) _
 have b2 : Below w.heap.size (w.alloc (.cells M 5)) ((w.alloc (.cells M 5)).setRow w.heap.size Y) := ⟨rfl, rfl, rfl, by simp, fun k hk => setRow_other _ _ _ _ (by omega)⟩
 exact ⟨rfl, Lib.below_freeze (b1.trans b2) (p := ⟨w.heap.size, 0, none⟩) (Nat.le_refl _) _⟩
theorem stringsClone_any (s : ByteArray) (w : World) (hlim : s.size ≤ 8) :
  Calls Tryz.prog 120 #[.string s] w fun e w' => e = .returned (.string s) ∧ Below w.heap.size w w' := by
 go_enter Tryz.func120, Tryz.ntmps120
 go_wp2_with (go_at_call 151; refine (clone_any _ _ hlim).mono ?_; rintro e w' ⟨rfl, hb⟩)
 go_ret
 exact ⟨rfl, hb⟩
theorem Blk.seven {w : World} {b : Nat} {t : TypeId} {x0 x1 x2 x3 x4 x5 x6 : Value} (h : Blk w b #[x0, x1, x2, x3, x4, x5, x6] t) :
  w.cell? ⟨b, 0, none⟩ = some x0 ∧ w.cell? ⟨b, 1, none⟩ = some x1 ∧ w.cell? ⟨b, 2, none⟩ = some x2 ∧ w.cell? ⟨b, 3, none⟩ = some x3 ∧ w.cell? ⟨b, 4, none⟩ = some x4 ∧ w.cell? ⟨b, 5, none⟩ = some x5 ∧ w.cell? ⟨b, 6, none⟩ = some x6 :=
 ⟨h.cell rfl, h.cell rfl, h.cell rfl, h.cell rfl, h.cell rfl, h.cell rfl, h.cell rfl⟩
set_option maxHeartbeats 2000000 in
theorem slotCopy_any (x : Sk) (w : World) (hlim : x.p.t.size ≤ 8) :
  Calls Tryz.prog 85 #[x.val] w fun e w' => e = .returned x.val ∧ Below w.heap.size w w' := by
 obtain ⟨n, seq, time, f, e, k, t⟩ := x
 simp only [Sk.val] at hlim ⊢
 go_enter Tryz.func85, Tryz.ntmps85
 go_wp2_with fail
 refine (stringsClone_any t _ hlim).mono ?_
 rintro r w1 ⟨rfl, hb⟩
 have k0 := (((Blk.new w #[.int .i64 n, .int .i64 seq, .int .i64 time, .bool f, .bool e, .bool k, .string t] 106).alloc (.cells #[.int .i64 0, .int .i64 0, .int .i64 0, .bool false, .bool false, .bool false, .string ⟨#[]⟩] 106)).below hb (by simp; omega))
 have k1 := ((Blk.new (w.alloc (.cells #[.int .i64 n, .int .i64 seq, .int .i64 time, .bool f, .bool e, .bool k, .string t] 106)) #[.int .i64 0, .int .i64 0, .int .i64 0, .bool false, .bool false, .bool false, .string ⟨#[]⟩] 106)).below hb (by simp)
 have hbw : Below w.heap.size w w1 := (((Below.refl _ w).alloc (Nat.le_refl _) _).alloc (by simp) _).trans (hb.mono (by simp; omega))
 simp only [World.size_alloc] at k1
 have f0 := k0.free
 have f1 := k1.free
 obtain ⟨c0, c1, c2, c3, c4, c5, c6⟩ := k0.seven
 obtain ⟨d0, d1, d2, d3, d4, d5, d6⟩ := k1.seven
 have hbe : Hid (Below w.heap.size w w1) := hbw
 clear hb hbw k0 k1
 go_wp2
 exact bodyPost_ret (v := .agg #[.int .i64 n, .int .i64 seq, .int .i64 time, .bool f, .bool e, .bool k, .string t]) (by simp [results, Tryz.results85, go_sem, d0, d1, d2, d3, d4, d5, d6]) rfl ⟨rfl, by
  have h := hbe.out
  exact ((((((((h.setCell (by simp) _).setCell (by simp) _).setCell (by simp) _).setCell (by simp) _).setCell (by simp) _).setCell (by simp) _).setCell (by simp) _).setCell (by simp) _)⟩
section
variable {P : Program} (w : World)
theorem run_append_own2 (base : Nat) (t ty e : TypeId) (i : TypeInfo) (z : Value) (size bytes : Nat) (ht : P.underlying t = some (.slice e)) (hi : P.info? e = some i) (hz : i.zero = some z)
  (hsize : i.size = size) (hby : i.bytes = bytes) (hzs : z.cells.size = size) (hsz : 0 < size)
  (v : Value) (n : Nat) (xs : List Value) (hown : w.ownsRow base e size v n xs)
  (a : Addr) (m c : Nat) (news : List Value) (hl : news.length = m * size) (hnews : ∀ j u, news[j]? = some u → w.cell? (a.add j) = some u) (h1 : ∀ u ∈ news, u.oneCell' = true)
  (h63 : n + m ≤ maxLen) (hbytes : (n + m) * bytes ≤ 140737488355328) (hbase : base ≤ w.heap.size) :
  ∃ v' w', (Builtin.append_ #[t, t] ty #[v, .slice (some a) m c]).run P w = .ok v' w' ∧ w'.ownsRow base e size v' (n + m) (xs ++ news) ∧ w.grownBy w' v.ownBlock ∧
   (v'.ownBlock = v.ownBlock ∨ ∀ g, v'.ownBlock = some g → w.heap.size ≤ g) := by
 obtain ⟨v', w', hr, ho, hg, _⟩ := run_append_own (P := P) w base t ty e i z size bytes ht hi hz hsize hby hzs hsz v n xs hown a m c news hl hnews h1 h63 hbytes hbase
 refine ⟨v', w', hr, ho, hg, ?_⟩
 obtain ⟨hxl, ⟨rfl, rfl⟩ | ⟨g, cap, cur, rfl, hbg, hgg, hnc, hcm, hcs, htake⟩⟩ := hown
 ·have hx : xs = [] := List.eq_nil_of_length_eq_zero (by simpa using hxl)
  subst hx
  obtain ⟨v2, w2, hr2, ho2, _, _⟩ := run_append_own (P := P) w w.heap.size t ty e i z size bytes ht hi hz hsize hby hzs hsz (.slice none 0 0) 0 [] (World.ownsRow_nil w w.heap.size e size) a m c news hl hnews h1 h63 hbytes (Nat.le_refl _)
  rw [hr] at hr2
  injection hr2 with e1 e2
  subst e1
  exact .inr fun g hg => (ho2.lt g hg).1
 ·by_cases hroom : n + m ≤ cap
  ·subst hsize
   have hfit : n * i.size + news.length ≤ cur.size := by rw [hl, hcs, ← Nat.add_mul]; exact Nat.mul_le_mul_right _ hroom
   have hr2 := run_append_room (P := P) w t ty e i ht hi g n cap cur hgg a m c news hl hnews h1 hroom hfit
   rw [hr] at hr2
   injection hr2 with e1 e2
   subst e1
   exact .inl rfl
  ·have holds : ∀ j u, xs[j]? = some u → w.cell? ((⟨g, 0, none⟩ : Addr).add j) = some u := fun j u hj => by
    have hlt : j < xs.length := (List.getElem?_eq_some_iff.1 hj).1
    have : cur.toList[j]? = some u := by
     rw [← htake, List.getElem?_take, if_pos (by omega)] at hj
     exact hj
    rw [Addr.add_lit]
    simp [World.cell?, hgg]
    simpa using this
   obtain ⟨v2, w2, hr2, ho2, _⟩ := run_append_arg_grows (P := P) w t ty e i z size bytes ht hi hz hsize hby hzs hsz ⟨g, 0, none⟩ n cap xs hxl holds a m c news hl hnews (by omega) h63 hbytes
   rw [hr] at hr2
   injection hr2 with e1 e2
   subst e1
   exact .inr fun g hg => (ho2.lt g hg).1
theorem wpList_append_own2 {ops : Array Oper} {rest : List Oper} {o : Oper} {a : Act} {Q : Exit → Act → World → Prop} (hgd : o.guard = none) (s x : Operand) (t : TypeId)
  (ho : o.op = .call { callee := .builtin .append, args := #[s, x], argTypes := #[t, t] })
  (base : Nat) (e : TypeId) (i : TypeInfo) (z : Value) (size bytes : Nat) (ht : P.underlying t = some (.slice e)) (hi : P.info? e = some i) (hz : i.zero = some z)
  (hsize : i.size = size) (hby : i.bytes = bytes) (hzs : z.cells.size = size) (hsz : 0 < size)
  (v : Value) (n : Nat) (xs : List Value) (hs : a.eval s = v) (hown : w.ownsRow base e size v n xs)
  (ad : Addr) (m c : Nat) (news : List Value) (hx : a.eval x = .slice (some ad) m c) (hl : news.length = m * size) (hnews : ∀ j u, news[j]? = some u → w.cell? (ad.add j) = some u) (h1 : ∀ u ∈ news, u.oneCell' = true)
  (h63 : n + m ≤ maxLen) (hbytes : (n + m) * bytes ≤ 140737488355328) (hbase : base ≤ w.heap.size)
  (h : ∀ v' w', w'.ownsRow base e size v' (n + m) (xs ++ news) → w.grownBy w' v.ownBlock → (v'.ownBlock = v.ownBlock ∨ ∀ g, v'.ownBlock = some g → w.heap.size ≤ g) → wpList P ops Q rest (a.put o.dst v') w') : wpList P ops Q (o :: rest) a w := by
 refine wpList_plain hgd fun K hK => ?_
 obtain ⟨v', w', hr, h2, h3, h4⟩ := run_append_own2 (P := P) w base t o.type e i z size bytes ht hi hz hsize hby hzs hsz v n xs hown ad m c news hl hnews h1 h63 hbytes hbase
 unfold Oper.wp execOp
 simp only [ho, resolve, invoke, builtin, Sem.run_bind, Sem.run_pure, Result.andThen_ok, List.map_toArray, List.map_cons, List.map_nil, hs, hx, hr]
 exact hK _ _ (h v' w' h2 h3 h4)
end
def Apart (v u : Value) : Prop := ∀ g, v.ownBlock = some g → u.ownBlock = some g → False
theorem Apart.nil (u : Value) : Apart (.slice none 0 0) u := fun g h _ => by simp [Value.ownBlock] at h
theorem Apart.symm {v u : Value} (h : Apart v u) : Apart u v := fun g h1 h2 => h g h2 h1
theorem Apart.grow {w : World} {base : Nat} {e : TypeId} {size n : Nat} {v v' u : Value} {xs : List Value} (ha : Apart v u) (hu : w.ownsRow base e size u n xs) (hd : v'.ownBlock = v.ownBlock ∨ ∀ g, v'.ownBlock = some g → w.heap.size ≤ g) : Apart v' u := by
 intro g h1 h2
 rcases hd with hd | hd
 ·exact ha g (hd ▸ h1) h2
 ·have := (hu.lt g h2).2
  have := hd g h1
  omega
end Go.Proofs.YtnpaejknoipicagGreat
namespace Go.Proofs.YtnpaejknoipicagGreat
open Go.RowKit
theorem Tryz.infoSlot : (Tryz.prog.info? 106).map (fun i => (i.zero, i.size, i.bytes)) = some (some (.agg #[.int .i64 0, .int .i64 0, .int .i64 0, .bool false, .bool false, .bool false, .string ByteArray.empty]), 7, 48) := by kernel_rfl
def Sls (w : World) (v : Value) (l : List Sk) : Prop := Sl w v l.length 7 (skCells l)
theorem Sls.below {w w' : World} {v : Value} {l : List Sk} (h : Sls w v l) (hb : Below w.heap.size w w') : Sls w' v l := Sl.below h hb
theorem Sls.len {w : World} {v : Value} {l : List Sk} (h : Sls w v l) : ∃ a c, v = .slice a l.length c := Sl.len h
theorem Sls.nil (w : World) : Sls w (.slice none 0 0) [] := ⟨rfl, .inl ⟨rfl, none, 0, rfl⟩⟩
theorem Sls.of_owns {w : World} {base : Nat} {v : Value} {l : List Sk} (h : w.ownsRow base 106 7 v l.length (skCells l)) : Sls w v l := Sl.of_owns h
def At7 (w : World) (b off : Nat) (x : Sk) : Prop :=
 w.cell? ⟨b, off, none⟩ = some (.int .i64 x.n) ∧ w.cell? ⟨b, off + 1, none⟩ = some (.int .i64 x.p.seq) ∧ w.cell? ⟨b, off + 2, none⟩ = some (.int .i64 x.p.time) ∧ w.cell? ⟨b, off + 3, none⟩ = some (.bool x.p.f) ∧
 w.cell? ⟨b, off + 4, none⟩ = some (.bool x.p.e) ∧ w.cell? ⟨b, off + 5, none⟩ = some (.bool x.p.k) ∧ w.cell? ⟨b, off + 6, none⟩ = some (.string x.p.t)
theorem Sls.parts {w : World} {v : Value} {l : List Sk} (h : Sls w v l) :
  ∃ ao c, v = .slice ao l.length c ∧ ∀ k, k < l.length → ∃ b off, ao = some ⟨b, off, none⟩ ∧ b < w.heap.size ∧ At7 w b (off + k * 7) (l[k]?.getD Sk.zero) := by
 obtain ⟨hl, ⟨h0, a, c, rfl⟩ | ⟨b, off, c, rfl, hb, hc⟩⟩ := h
 ·exact ⟨a, c, by rw [h0], fun k hk => by omega⟩
 ·refine ⟨_, c, rfl, fun k hk => ⟨b, off, rfl, hb, ?_⟩⟩
  have g : ∀ i u, i < 7 → ((l[k]?.getD Sk.zero).cells)[i]? = some u → w.cell? ⟨b, off + k * 7 + i, none⟩ = some u := fun i u hi hu => by
   rw [Nat.add_assoc]
   exact hc (k * 7 + i) u (by rw [skCells_at l k i hi hk]; exact hu)
  exact ⟨g 0 _ (by omega) rfl, g 1 _ (by omega) rfl, g 2 _ (by omega) rfl, g 3 _ (by omega) rfl, g 4 _ (by omega) rfl, g 5 _ (by omega) rfl, g 6 _ (by omega) rfl⟩
theorem At7.below {w w' : World} {b off B : Nat} {x : Sk} (h : At7 w b off x) (hb : Below B w w') (hB : b < B) : At7 w' b off x := by
 have g : ∀ j u, w.cell? ⟨b, j, none⟩ = some u → w'.cell? ⟨b, j, none⟩ = some u := fun j u hu => (hb.cell (p := ⟨b, j, none⟩) hB).trans hu
 obtain ⟨h0, h1, h2, h3, h4, h5, h6⟩ := h
 exact ⟨g _ _ h0, g _ _ h1, g _ _ h2, g _ _ h3, g _ _ h4, g _ _ h5, g _ _ h6⟩
theorem owns_same {w w' : World} {base : Nat} {e : TypeId} {size : Nat} {v : Value} {n : Nat} {xs : List Value} (h : w.ownsRow base e size v n xs) (hs : ∀ g, v.ownBlock = some g → w'.heap[g]? = w.heap[g]?) : w'.ownsRow base e size v n xs := by
 obtain ⟨hl, h | ⟨g, cap, cur, rfl, hb, hh, h1, h2, h3, h4⟩⟩ := h
 ·exact ⟨hl, .inl h⟩
 ·exact ⟨hl, .inr ⟨g, cap, cur, rfl, hb, (hs g rfl).trans hh, h1, h2, h3, h4⟩⟩
theorem owns_below {w w' : World} {base B : Nat} {e : TypeId} {size : Nat} {v : Value} {n : Nat} {xs : List Value} (h : w.ownsRow base e size v n xs) (hb : Below B w w') (hB : w.heap.size ≤ B) : w'.ownsRow base e size v n xs :=
 owns_same h fun g hg => hb.block g (by have := (h.lt g hg).2; omega)
theorem newSlot {w : World} {x : Sk} {t : TypeId} {n : Nat} (hn : n = w.heap.size) : ∀ j u, x.cells.toList[j]? = some u → (w.alloc (.cells x.cells t)).cell? ((⟨n, 0, none⟩ : Addr).add j) = some u := by
 intro j u hj
 subst hn
 rw [Addr.add_lit, Nat.zero_add, World.cell?_alloc_new]
 simpa using hj
theorem oneSlot (x : Sk) : ∀ u ∈ x.cells.toList, u.oneCell' = true := by
 intro u hu
 simp [Sk.cells] at hu
 rcases hu with h | h | h | h | h | h | h <;> subst h <;> rfl
set_option maxHeartbeats 2000000 in
set_option maxRecDepth 1000000 in
theorem copyAll_any (v : Value) (l : List Sk) (w : World) (hv : Sls w v l) (hlen : l.length ≤ 1000) (hshort : ∀ x ∈ l, x.p.t.size ≤ 8) :
  Calls Tryz.prog 68 #[v] w fun e w' => ∃ u, e = .returned u ∧ w'.ownsRow w.heap.size 106 7 u l.length (skCells l) ∧ Below w.heap.size w w' := by
 obtain ⟨i0, hi, hz0, hz1, hz2⟩ := info_parts Tryz.infoSlot
 obtain ⟨ao, c, rfl, hc⟩ := hv.parts
 have HC : Hid (∀ k, k < l.length → ∃ b off, ao = some ⟨b, off, none⟩ ∧ b < w.heap.size ∧ At7 w b (off + k * 7) (l[k]?.getD Sk.zero)) := hc
 have HS : Hid (∀ k, k < l.length → (l[k]?.getD Sk.zero).p.t.size ≤ 8) := fun k hk => hshort _ (by rw [List.getElem?_eq_getElem hk]; exact List.getElem_mem hk)
 obtain ⟨n, hn⟩ : ∃ n, n = l.length := ⟨_, rfl⟩
 have HN : Hid (n = l.length) := hn
 rw [← hn] at hlen ⊢
 clear hc hv hn hshort
 go_enter Tryz.func68, Tryz.ntmps68
 go_wp2
 go_loopw [3, 8] (fun v i wr => ∃ k : Nat, k ≤ n ∧ i = .int .i64 k ∧ Hid (wr.ownsRow w.heap.size 106 7 v k (skCells (l.take k))) ∧ Below w.heap.size w wr)
  (fun _ i _ => n - (intOf i).toNat)
 case atStart => exact ⟨0, Nat.zero_le _, rfl, (show World.ownsRow _ _ _ _ _ _ _ from World.ownsRow_nil _ _ _ _), Below.refl _ _⟩
 case round =>
  obtain ⟨k, hk, rfl, HO, hbel⟩ := hrel
  by_cases hlt : k < n
  ·obtain ⟨b, off, rfl, hb, hat⟩ := HC.out k (by rw [← HN.out]; exact hlt)
   have hsh := HS.out k (by rw [← HN.out]; exact hlt)
   obtain ⟨c0, c1, c2, c3, c4, c5, c6⟩ := hat.below hbel hb
   obtain ⟨x, hx⟩ : ∃ x, x = l[k]?.getD Sk.zero := ⟨_, rfl⟩
   rw [← hx] at c0 c1 c2 c3 c4 c5 c6 hsh
   have HX : Hid (x = l[k]?.getD Sk.zero) := hx
   have hcp : ∀ w : World, Calls Tryz.prog 85 #[x.val] w fun e w' => e = .returned x.val ∧ Below w.heap.size w w' := fun w => slotCopy_any x w hsh
   clear hx hat
   obtain ⟨xn, seq, time, xf, xe, xk, xt⟩ := x
   simp only [Sk.val] at hcp c0 c1 c2 c3 c4 c5 c6
   have HB : Hid (Below w.heap.size w wr) := hbel
   clear hbel
   go_wp2_with (first
    | (go_at_call 85; refine (hcp _).mono ?_; rintro e w1 ⟨rfl, hbw⟩)
    | (at_builtin; refine wpList_append_own _ rfl _ _ 22 rfl w.heap.size 106 i0 _ 7 48 Tryz.underlying22 hi hz0 hz1 hz2 rfl (by decide) _ k (skCells (l.take k)) rfl ?c0 ⟨w1.heap.size, 0, none⟩ 1 1 (Sk.cells ⟨xn, seq, time, xf, xe, xk, xt⟩).toList rfl rfl ?c1 ?c2 ?c3 ?c4 ?c5 ?_))
   case c0 => exact (owns_below (HO.out.alloc _) hbw (Nat.le_refl _)).alloc _
   case c1 => exact newSlot rfl
   case c2 => exact oneSlot _
   case c3 => unfold maxLen; omega
   case c4 => omega
   case c5 => have h1 := HB.out.size; have h2 := hbw.size; simp at h2 ⊢; omega
   ·intro v' w2 hown' hgrow _
    have h1 := HB.out.size
    have h2 := hbw.size
    have hb1 : Below w.heap.size w w1 := HB.out.trans (((Below.refl _ _).alloc h1 _).trans (hbw.mono (by simp; omega)))
    have R1 : Hid (Below w.heap.size w w2) := (hb1.alloc (by have := hb1.size; omega) _).grown hgrow (by have := hb1.size; simp; omega) (fun j hj => (HO.out.lt j hj).1)
    have R2 : Hid (w2.ownsRow w.heap.size 106 7 v' (k + 1) (skCells (l.take (k + 1)))) := by
     show w2.ownsRow w.heap.size 106 7 v' (k + 1) (skCells (l.take (k + 1)))
     rw [take_one (by rw [← HN.out]; exact hlt) Sk.zero, skCells_append, ← HX.out, skCells_one]
     exact hown'
    clear hown' hgrow c0 c1 c2 c3 c4 c5 c6 hbw hb1 h1 h2 HO HX
    go_wp2
    go_roundw
    case rel => exact ⟨k + 1, by omega, by go_num, R2, R1.out⟩
    case measure => simp [intOf]; omega
  ·have hkl : k = n := by omega
   subst hkl
   go_wp2
   go_ret
   have ho := HO.out
   rw [HN.out, List.take_length, ← HN.out] at ho
   exact ⟨_, rfl, ho, hbel⟩
end Go.Proofs.YtnpaejknoipicagGreat
namespace Go.Proofs.YtnpaejknoipicagGreat
open Go.ChangeShapes Go.WideShapes Go.ChangeAt Go.RowKit
open Go.ChangeMaps (open_string shut_string)
section
variable {H : Type} {enc : TypeId × Value → H} {W : World} {r : Reach} {b0 base : Nat} {spare : Nat → Bool} {held : Bool} {v : Value} {d : DataW H} {p : List MemPlace}
theorem Tryz.cellsPk : Tryz.prog.cellsOf 63 = 6 := by kernel_rfl
theorem Tryz.cellsSk : Tryz.prog.cellsOf 106 = 7 := by kernel_rfl
theorem Tryz.cellsI : Tryz.prog.cellsOf 3 = 1 := by kernel_rfl
theorem Tryz.cellsB : Tryz.prog.cellsOf 4 = 1 := by kernel_rfl
theorem Tryz.cellsS : Tryz.prog.cellsOf 9 = 1 := by kernel_rfl
theorem list7 {α : Type} {l : List α} (h : l.length = 7) : ∃ c0 c1 c2 c3 c4 c5 c6, l = [c0, c1, c2, c3, c4, c5, c6] := by
 match l, h with
 | [c0, c1, c2, c3, c4, c5, c6], _ => exact ⟨c0, c1, c2, c3, c4, c5, c6, rfl⟩
theorem list6' {α : Type} {l : List α} (h : l.length = 6) : ∃ c0 c1 c2 c3 c4 c5, l = [c0, c1, c2, c3, c4, c5] := by
 match l, h with
 | [c0, c1, c2, c3, c4, c5], _ => exact ⟨c0, c1, c2, c3, c4, c5, rfl⟩
theorem list2 {α : Type} {l : List α} (h : l.length = 2) : ∃ c0 c1, l = [c0, c1] := by
 match l, h with
 | [c0, c1], _ => exact ⟨c0, c1, rfl⟩
def Sk.fits (x : Sk) : Prop := (Lit.int .i64 x.n).wf = true ∧ (Lit.int .i64 x.p.seq).wf = true ∧ (Lit.int .i64 x.p.time).wf = true ∧ x.p.t.size ≤ maxLen
theorem trod_slot {fuel : Nat} {cs : List Value} {x : DataW H × List MemPlace} (h : DataW.trod enc Tryz.prog W base spare held fuel 106 cs = some x) :
  ∃ s : Sk, cs = s.cells.toList ∧ s.fits := by
 obtain ⟨xs, n, _, _, hl, hxl, hf⟩ := DataW.trod_struct Tryz.underlying106 h
 rw [Tryz.cellsSk] at hl
 obtain ⟨c0, c1, c2, c3, c4, c5, c6, rfl⟩ := list7 hl
 obtain ⟨x0, x1, rfl⟩ := list2 (show xs.length = 2 from hxl)
 have h0 : DataW.trod enc Tryz.prog W base spare held n 3 (([c0, c1, c2, c3, c4, c5, c6].drop 0).take (Tryz.prog.cellsOf 3)) = some x0 := hf 0 _ rfl
 have h1 : DataW.trod enc Tryz.prog W base spare held n 63 (([c0, c1, c2, c3, c4, c5, c6].drop 1).take (Tryz.prog.cellsOf 63)) = some x1 := hf 1 _ rfl
 rw [Tryz.cellsI] at h0
 rw [Tryz.cellsPk] at h1
 obtain ⟨a, ea, _, wa⟩ := DataW.trod_int Tryz.underlying3 h0
 obtain ⟨ys, m, _, _, hl2, hyl, hg⟩ := DataW.trod_struct Tryz.underlying63 h1
 obtain ⟨y0, y1, y2, y3, y4, y5, rfl⟩ := list6' (show ys.length = 6 from hyl)
 have g0 : DataW.trod enc Tryz.prog W base spare held m 3 (([c1, c2, c3, c4, c5, c6].drop 0).take (Tryz.prog.cellsOf 3)) = some y0 := hg 0 _ rfl
 have g1 : DataW.trod enc Tryz.prog W base spare held m 3 (([c1, c2, c3, c4, c5, c6].drop 1).take (Tryz.prog.cellsOf 3)) = some y1 := hg 1 _ rfl
 have g2 : DataW.trod enc Tryz.prog W base spare held m 4 (([c1, c2, c3, c4, c5, c6].drop 2).take (Tryz.prog.cellsOf 4)) = some y2 := hg 2 _ rfl
 have g3 : DataW.trod enc Tryz.prog W base spare held m 4 (([c1, c2, c3, c4, c5, c6].drop 3).take (Tryz.prog.cellsOf 4)) = some y3 := hg 3 _ rfl
 have g4 : DataW.trod enc Tryz.prog W base spare held m 4 (([c1, c2, c3, c4, c5, c6].drop 4).take (Tryz.prog.cellsOf 4)) = some y4 := hg 4 _ rfl
 have g5 : DataW.trod enc Tryz.prog W base spare held m 9 (([c1, c2, c3, c4, c5, c6].drop 5).take (Tryz.prog.cellsOf 9)) = some y5 := hg 5 _ rfl
 rw [Tryz.cellsI] at g0 g1
 rw [Tryz.cellsB] at g2 g3 g4
 rw [Tryz.cellsS] at g5
 obtain ⟨a0, e0, _, w0⟩ := DataW.trod_int Tryz.underlying3 g0
 obtain ⟨a1, e1, _, w1⟩ := DataW.trod_int Tryz.underlying3 g1
 obtain ⟨a2, e2, _⟩ := DataW.trod_bool Tryz.underlying4 g2
 obtain ⟨a3, e3, _⟩ := DataW.trod_bool Tryz.underlying4 g3
 obtain ⟨a4, e4, _⟩ := DataW.trod_bool Tryz.underlying4 g4
 obtain ⟨a5, e5, _, w5⟩ := DataW.trod_string Tryz.underlying9 g5
 simp at ea e0 e1 e2 e3 e4 e5
 subst ea e0 e1 e2 e3 e4 e5
 exact ⟨⟨a, ⟨a0, a1, a2, a3, a4, a5⟩⟩, rfl, wa, w0, w1, w5⟩
theorem trod_slots {fuel : Nat} {cs : List Value} {x : DataW H × List MemPlace} (h : DataW.trod enc Tryz.prog W base spare held fuel 22 cs = some x) :
  ∃ (u : Value) (l : List Sk), cs = [u] ∧ Sls W u l ∧ (∀ s ∈ l, s.fits) ∧ l.length ≤ maxLen ∧ (∀ a n c, u = .slice a n c → n ≤ c) ∧ (∀ elems sp, x.1 = .slice elems sp → l.length ≤ elems.length + sp.length) ∧ (x.1 = .nil → l = []) ∧ (x.1 = .nil ∨ ∃ elems sp, x.1 = .slice elems sp) := by
 rcases Go.Deep.open_slice Tryz.underlying22 h with ⟨rfl, rfl⟩ | ⟨a, len, cap, m, n, D, Pl, rfl, hb, hl, hm, hmm, rfl, hx⟩
 ·exact ⟨_, [], rfl, Sls.nil W, by simp, by simp, fun a n c e => by cases e; exact Nat.le_refl _, by simp, fun _ => rfl, .inl rfl⟩
 ·have hlm : len ≤ m := by rw [hmm]; split <;> omega
  rw [Tryz.cellsSk] at hx
  have each : ∀ i, i < len → ∃ s : Sk, s.fits ∧ ∀ j u, s.cells[j]? = some u → W.cell? (a.add (i * 7 + j)) = some u := fun i hi => by
   obtain ⟨cs', h1, h2⟩ := hx i (by omega)
   obtain ⟨s, hs, hw⟩ := trod_slot h2
   refine ⟨s, hw, fun j u hj => ?_⟩
   obtain ⟨_, hl7, hc⟩ := World.cells?_some h1
   have hj7 : j < 7 := by
    have := (Array.getElem?_eq_some_iff.1 hj).1
    exact this
   rw [← Go.Deep.add_add, hc j hj7, hs]
   simpa using hj
  obtain ⟨f, hf⟩ := Go.Deep.choose_lt each
  have hll : ((List.range len).map f).length = len := by simp
  refine ⟨_, (List.range len).map f, rfl, ⟨?_, ?_⟩, ?_, by rw [hll]; omega, fun a' n' c' e => by cases e; exact hl, ?_, fun e => by simp at e, .inr ⟨_, _, rfl⟩⟩
  ·rw [skCells_len, hll]
  ·rw [hll]
   by_cases h0 : len = 0
   ·subst h0
    exact .inl ⟨rfl, _, _, rfl⟩
   ·right
    obtain ⟨b, off, spot⟩ := a
    have hc0 := (hf 0 (by omega)).2 0 _ rfl
    have hspot : spot = none := by simpa [Addr.add] using World.cell?_spot hc0
    subst hspot
    refine ⟨b, off, cap, rfl, by simpa [Addr.add] using World.block_lt_of_cell? W _ hc0, fun j u hj => ?_⟩
    have hjl : j < len * 7 := by
     have := (List.getElem?_eq_some_iff.1 hj).1
     rwa [skCells_len, hll] at this
    have hjk : j = j / 7 * 7 + j % 7 := by omega
    rw [hjk, skCells_at _ (j / 7) (j % 7) (by omega) (by rw [hll]; omega)] at hj
    have hel : ((List.range len).map f)[j / 7]?.getD Sk.zero = f (j / 7) := by
     rw [List.getElem?_map, List.getElem?_range (by omega)]; rfl
    rw [hel] at hj
    have := (hf (j / 7) (by omega)).2 (j % 7) u hj
    rw [← hjk, Addr.add_lit] at this
    exact this
  ·intro s hs
   obtain ⟨i, hi, rfl⟩ := List.mem_map.1 hs
   exact (hf i (by simpa using hi)).1
  ·intro elems sp e
   simp only [DataW.slice.injEq] at e
   rw [hll, ← e.1]
   simp
end
end Go.Proofs.YtnpaejknoipicagGreat
namespace Go.Proofs.YtnpaejknoipicagGreat
open Go.RowKit
def idxOf (p : Sk → Bool) (l : List Sk) : Int := match l.findIdx? p with
 | some i => i
 | none => -1
def Tells (g : Nat) (lb : Array Value) (p : Sk → Bool) (w : World) : Prop :=
 ∀ (W : World) (x : Sk), Below w.heap.size w W → Calls Tryz.prog g (#[x.val] ++ lb) W fun e w' => e = .returned (.bool (p x)) ∧ Below W.heap.size W w'
theorem idxOf_hit {p : Sk → Bool} {l : List Sk} {k : Nat} (hk : k < l.length) (hno : ∀ j, j < k → p (l[j]?.getD Sk.zero) = false) (hp : p (l[k]?.getD Sk.zero) = true) : idxOf p l = k := by
 have : l.findIdx? p = some k := by
  rw [List.findIdx?_eq_some_iff_getElem]
  refine ⟨hk, by rw [List.getElem?_eq_getElem hk] at hp; exact hp, fun j hj => ?_⟩
  have := hno j hj
  rw [List.getElem?_eq_getElem (by omega), Option.getD_some] at this
  rw [this]; simp
 simp [idxOf, this]
theorem idxOf_miss {p : Sk → Bool} {l : List Sk} (hno : ∀ j, j < l.length → p (l[j]?.getD Sk.zero) = false) : idxOf p l = -1 := by
 have : l.findIdx? p = none := by
  rw [List.findIdx?_eq_none_iff]
  intro x hx
  obtain ⟨j, hj, rfl⟩ := List.getElem_of_mem hx
  have := hno j hj
  rw [List.getElem?_eq_getElem hj] at this
  exact this
 simp [idxOf, this]
theorem idxOf_any (p : Sk → Bool) (l : List Sk) : decide (0 ≤ idxOf p l) = l.any p := by
 unfold idxOf
 cases h : l.findIdx? p with
 | none =>
  have h2 : l.any p = false := by rw [List.findIdx?_eq_none_iff] at h; simpa using h
  simp [h2]
 | some i =>
  have h2 : l.any p = true := by
   rw [List.findIdx?_eq_some_iff_getElem] at h
   obtain ⟨h1, h2, _⟩ := h
   exact List.any_eq_true.2 ⟨l[i], List.getElem_mem h1, h2⟩
  simp [h2]
set_option maxHeartbeats 1600000 in
theorem indexFunc_any (g : Nat) (lb : Array Value) (p : Sk → Bool) (eg : Enters Tryz.prog g) (v : Value) (l : List Sk) (w : World) (hv : Sls w v l) (hlen : l.length ≤ 9223372036854775807) (hp : Tells g lb p w) :
  Calls Tryz.prog 175 #[v, .func (.func g) #[] lb] w fun e w' => e = .returned (.int .i64 (idxOf p l)) ∧ Below w.heap.size w w' := by
 obtain ⟨ao, c, rfl, hc⟩ := hv.parts
 have HC : Hid (∀ k, k < l.length → ∃ b off, ao = some ⟨b, off, none⟩ ∧ b < w.heap.size ∧ At7 w b (off + k * 7) (l[k]?.getD Sk.zero)) := hc
 have HP : Hid (Tells g lb p w) := hp
 obtain ⟨n, hn⟩ : ∃ n, n = l.length := ⟨_, rfl⟩
 have HN : Hid (n = l.length) := hn
 have eg' : ∀ (args : Array Value) (w : World), (callFunc g args).run Tryz.prog w = .ok (.enter g args) w := eg
 rw [← hn] at hlen ⊢
 clear hc hv hn hp eg
 go_enter Tryz.func175, Tryz.ntmps175
 go_wp2
 go_loopw [8] (fun i wr => ∃ k : Nat, k ≤ n ∧ i = .int .i64 k ∧ Hid (∀ j, j < k → p (l[j]?.getD Sk.zero) = false) ∧ Below w.heap.size w wr)
  (fun i _ => n - (intOf i).toNat)
 case atStart => exact ⟨0, Nat.zero_le _, rfl, (show ∀ j, j < 0 → _ from fun j hj => absurd hj (Nat.not_lt_zero _)), Below.refl _ _⟩
 case round =>
  obtain ⟨k, hk, rfl, HK, hbel⟩ := hrel
  by_cases hlt : k < n
  ·obtain ⟨b, off, rfl, hb, hat⟩ := HC.out k (by rw [← HN.out]; exact hlt)
   obtain ⟨c0, c1, c2, c3, c4, c5, c6⟩ := hat.below hbel hb
   obtain ⟨x, hx⟩ : ∃ x, x = l[k]?.getD Sk.zero := ⟨_, rfl⟩
   rw [← hx] at c0 c1 c2 c3 c4 c5 c6
   have HX : Hid (x = l[k]?.getD Sk.zero) := hx
   obtain ⟨t, ht⟩ : ∃ t, t = p x := ⟨_, rfl⟩
   have HT : Hid (t = p x) := ht
   have hcall := HP.out wr x hbel
   rw [← ht] at hcall
   clear hx hat ht
   obtain ⟨xn, seq, time, xf, xe, xk, xt⟩ := x
   simp only [Sk.val] at hcall c0 c1 c2 c3 c4 c5 c6
   have HB : Hid (Below w.heap.size w wr) := hbel
   clear hbel
   cases t
   ·go_wp2_with (go_at_fn g; refine hcall.mono ?_; rintro e w1 ⟨rfl, hbw⟩)
    go_roundw
    case rel =>
     refine ⟨k + 1, by omega, by go_num, (show ∀ j, j < k + 1 → _ from fun j hj => ?_), HB.out.trans (hbw.mono HB.out.size)⟩
     by_cases e : j = k
     ·subst e
      rw [← HX.out]; exact HT.out.symm
     ·exact HK.out j (by omega)
    case measure => simp [intOf]; omega
   ·go_wp2_with (go_at_fn g; refine hcall.mono ?_; rintro e w1 ⟨rfl, hbw⟩)
    go_ret
    exact ⟨by rw [idxOf_hit (by rw [← HN.out]; exact hlt) HK.out (by rw [← HX.out]; exact HT.out.symm)]; rfl, HB.out.trans (hbw.mono HB.out.size)⟩
  ·have hkl : k = n := by omega
   subst hkl
   go_wp2
   go_ret
   exact ⟨by rw [idxOf_miss (fun j hj => HK.out j (by rw [HN.out]; exact hj))]; rfl, hbel⟩
theorem containsFunc_any (g : Nat) (lb : Array Value) (p : Sk → Bool) (eg : Enters Tryz.prog g) (v : Value) (l : List Sk) (w : World) (hv : Sls w v l) (hlen : l.length ≤ 9223372036854775807) (hp : Tells g lb p w) :
  Calls Tryz.prog 173 #[v, .func (.func g) #[] lb] w fun e w' => e = .returned (.bool (l.any p)) ∧ Below w.heap.size w w' := by
 rw [← idxOf_any]
 have hix := indexFunc_any g lb p eg v l w hv hlen hp
 obtain ⟨r, hr⟩ : ∃ r, r = idxOf p l := ⟨_, rfl⟩
 rw [← hr] at hix ⊢
 clear hr
 obtain ⟨a, c, rfl⟩ := hv.len
 go_enter Tryz.func173, Tryz.ntmps173
 go_wp2_with (go_at_call 175; refine hix.mono ?_; rintro e w1 ⟨rfl, hbw⟩)
 go_ret
 exact ⟨rfl, hbw⟩
def Strs (w : World) (v : Value) (l : List ByteArray) : Prop := Sl w v l.length 1 (l.map Value.string)
theorem Strs.below {w w' : World} {v : Value} {l : List ByteArray} (h : Strs w v l) (hb : Below w.heap.size w w') : Strs w' v l := Sl.below h hb
theorem Strs.alloc {w : World} {v : Value} {l : List ByteArray} (h : Strs w v l) (o : Obj) : Strs (w.alloc o) v l := h.below ((Below.refl _ w).alloc (Nat.le_refl _) _)
theorem Strs.len {w : World} {v : Value} {l : List ByteArray} (h : Strs w v l) : ∃ a c, v = .slice a l.length c := Sl.len h
theorem Strs.nil (w : World) : Strs w (.slice none 0 0) [] := ⟨rfl, .inl ⟨rfl, none, 0, rfl⟩⟩
theorem Strs.parts {w : World} {v : Value} {l : List ByteArray} (h : Strs w v l) :
  ∃ ao c, v = .slice ao l.length c ∧ ∀ k, k < l.length → ∃ b off, ao = some ⟨b, off, none⟩ ∧ b < w.heap.size ∧ w.cell? ⟨b, off + k, none⟩ = some (.string (l[k]?.getD ByteArray.empty)) := by
 obtain ⟨ao, c, hv, hc⟩ := Sl.parts h
 exact ⟨ao, c, hv, fun k hk => hc k _ (by simp [List.getElem?_eq_getElem hk])⟩
def longB (s : ByteArray) : Bool := decide (8 < s.size)
def chkF (time : Int) (l : List ByteArray) : Int := if time < 0 ∨ 1000000 < time then 3 else if l.length = 0 then 5 else if 4 < l.length then 2 else if l.any longB then 2 else 0
theorem hasLongLit_any (s : ByteArray) (w : World) : Calls Tryz.prog 155 #[.string s] w fun e w' => e = .returned (.bool (longB s)) ∧ w = w' := by
 unfold longB
 go_enter Tryz.func155, Tryz.ntmps155
 go_wp2
 go_ret
 exact ⟨by simp; omega, rfl⟩
def idxS (l : List ByteArray) : Int := match l.findIdx? longB with
 | some i => i
 | none => -1
theorem idxS_any (l : List ByteArray) : decide (0 ≤ idxS l) = l.any longB := by
 unfold idxS
 cases h : l.findIdx? longB with
 | none =>
  have h2 : l.any longB = false := by rw [List.findIdx?_eq_none_iff] at h; rw [List.any_eq_false]; intro x hx; simpa using h x hx
  simp [h2]
 | some i =>
  have h2 : l.any longB = true := by
   rw [List.findIdx?_eq_some_iff_getElem] at h
   obtain ⟨h1, h2, _⟩ := h
   exact List.any_eq_true.2 ⟨l[i], List.getElem_mem h1, h2⟩
  simp [h2]
theorem idxS_hit {l : List ByteArray} {k : Nat} (hk : k < l.length) (hno : ∀ j, j < k → longB (l[j]?.getD ByteArray.empty) = false) (hp : longB (l[k]?.getD ByteArray.empty) = true) : idxS l = k := by
 have : l.findIdx? longB = some k := by
  rw [List.findIdx?_eq_some_iff_getElem]
  refine ⟨hk, by rw [List.getElem?_eq_getElem hk] at hp; exact hp, fun j hj => ?_⟩
  have := hno j hj
  rw [List.getElem?_eq_getElem (by omega), Option.getD_some] at this
  rw [this]; simp
 simp [idxS, this]
theorem idxS_miss {l : List ByteArray} (hno : ∀ j, j < l.length → longB (l[j]?.getD ByteArray.empty) = false) : idxS l = -1 := by
 have : l.findIdx? longB = none := by
  rw [List.findIdx?_eq_none_iff]
  intro x hx
  obtain ⟨j, hj, rfl⟩ := List.getElem_of_mem hx
  have := hno j hj
  rw [List.getElem?_eq_getElem hj] at this
  exact this
 simp [idxS, this]
set_option maxHeartbeats 1600000 in
theorem indexStr_any (v : Value) (l : List ByteArray) (w : World) (hv : Strs w v l) (hlen : l.length ≤ 9223372036854775807) :
  Calls Tryz.prog 169 #[v, .func (.func 155) #[] #[]] w fun e w' => e = .returned (.int .i64 (idxS l)) ∧ w = w' := by
 obtain ⟨ao, c, rfl, hc⟩ := hv.parts
 have HC : Hid (∀ k, k < l.length → ∃ b off, ao = some ⟨b, off, none⟩ ∧ b < w.heap.size ∧ w.cell? ⟨b, off + k, none⟩ = some (.string (l[k]?.getD ByteArray.empty))) := hc
 obtain ⟨n, hn⟩ : ∃ n, n = l.length := ⟨_, rfl⟩
 have HN : Hid (n = l.length) := hn
 rw [← hn] at hlen ⊢
 clear hc hv hn
 go_enter Tryz.func169, Tryz.ntmps169
 go_wp2
 go_loopw [8] (fun i wr => ∃ k : Nat, k ≤ n ∧ i = .int .i64 k ∧ Hid (∀ j, j < k → longB (l[j]?.getD ByteArray.empty) = false) ∧ w = wr)
  (fun i _ => n - (intOf i).toNat)
 case atStart => exact ⟨0, Nat.zero_le _, rfl, (show ∀ j, j < 0 → _ from fun j hj => absurd hj (Nat.not_lt_zero _)), rfl⟩
 case round =>
  obtain ⟨k, hk, rfl, HK, rfl⟩ := hrel
  by_cases hlt : k < n
  ·obtain ⟨b, off, rfl, hb, hat⟩ := HC.out k (by rw [← HN.out]; exact hlt)
   obtain ⟨x, hx⟩ : ∃ x, x = l[k]?.getD ByteArray.empty := ⟨_, rfl⟩
   rw [← hx] at hat
   have HX : Hid (x = l[k]?.getD ByteArray.empty) := hx
   obtain ⟨t, ht⟩ : ∃ t, t = longB x := ⟨_, rfl⟩
   have HT : Hid (t = longB x) := ht
   have hcall := hasLongLit_any x w
   rw [← ht] at hcall
   clear hx ht
   cases t
   ·go_wp2_with (go_at_call 155; refine hcall.mono ?_; rintro e w1 ⟨rfl, rfl⟩)
    go_roundw
    case rel =>
     refine ⟨k + 1, by omega, by go_num, (show ∀ j, j < k + 1 → _ from fun j hj => ?_), by first | rfl | trivial⟩
     by_cases e : j = k
     ·subst e
      rw [← HX.out]; exact HT.out.symm
     ·exact HK.out j (by omega)
    case measure => simp [intOf]; omega
   ·go_wp2_with (go_at_call 155; refine hcall.mono ?_; rintro e w1 ⟨rfl, rfl⟩)
    go_ret
    exact ⟨by rw [idxS_hit (by rw [← HN.out]; exact hlt) HK.out (by rw [← HX.out]; exact HT.out.symm)]; rfl, rfl⟩
  ·have hkl : k = n := by omega
   subst hkl
   go_wp2
   go_ret
   exact ⟨by rw [idxS_miss (fun j hj => HK.out j (by rw [HN.out]; exact hj))]; rfl, rfl⟩
theorem hasLong_any (v : Value) (l : List ByteArray) (w : World) (hv : Strs w v l) (hlen : l.length ≤ 9223372036854775807) :
  Calls Tryz.prog 126 #[v] w fun e w' => e = .returned (.bool (l.any longB)) ∧ w = w' := by
 rw [← idxS_any]
 have hix := indexStr_any v l w hv hlen
 obtain ⟨r, hr⟩ : ∃ r, r = idxS l := ⟨_, rfl⟩
 rw [← hr] at hix ⊢
 clear hr
 obtain ⟨a, c, rfl⟩ := hv.len
 have hcf : Calls Tryz.prog 154 #[.slice a l.length c, .func (.func 155) #[] #[]] w fun e w' => e = .returned (.bool (decide (0 ≤ r))) ∧ w = w' := by
  go_enter Tryz.func154, Tryz.ntmps154
  go_wp2_with (go_at_call 169; refine hix.mono ?_; rintro e w1 ⟨rfl, rfl⟩)
  go_ret
  exact ⟨rfl, rfl⟩
 go_enter Tryz.func126, Tryz.ntmps126
 go_wp2_with (go_at_call 154; refine hcf.mono ?_; rintro e w1 ⟨rfl, rfl⟩)
 go_ret
 exact ⟨rfl, rfl⟩
set_option maxHeartbeats 1000000 in
theorem frameCheck_any (time : Int) (key : Bool) (v : Value) (l : List ByteArray) (w : World) (hv : Strs w v l) (hlen : l.length ≤ 9223372036854775807) :
  Calls Tryz.prog 94 #[.agg #[.int .i64 time, .bool key, v]] w fun e w' => e = .returned (.int .i64 (chkF time l)) ∧ Below w.heap.size w w' := by
 obtain ⟨a, c, hva⟩ := hv.len
 have HL : Hid (∀ w', Strs w' v l → Calls Tryz.prog 126 #[v] w' fun e w'' => e = .returned (.bool (l.any longB)) ∧ w' = w'') := fun w' hs => hasLong_any v l w' hs hlen
 have HV : Hid (Strs w v l) := hv
 obtain ⟨n, hn⟩ : ∃ n, n = l.length := ⟨_, rfl⟩
 obtain ⟨t, ht⟩ : ∃ t, t = l.any longB := ⟨_, rfl⟩
 rw [← ht] at HL
 rw [← hn] at hva hlen
 have hr : chkF time l = if time < 0 ∨ 1000000 < time then 3 else if n = 0 then 5 else if 4 < n then 2 else if t then 2 else 0 := by unfold chkF; rw [ht, hn]
 rw [hr]
 clear hv hn ht hr
 subst hva
 by_cases h1 : time < 0
 ·rw [if_pos (.inl h1)]
  go_enter Tryz.func94, Tryz.ntmps94
  go_wp2
  go_ret
  exact ⟨rfl, by go_grown⟩
 by_cases h2 : 1000000 < time
 ·rw [if_pos (.inr h2)]
  go_enter Tryz.func94, Tryz.ntmps94
  go_wp2
  go_ret
  exact ⟨rfl, by go_grown⟩
 rw [if_neg (by omega)]
 by_cases h3 : n = 0
 ·rw [if_pos h3]
  subst h3
  go_enter Tryz.func94, Tryz.ntmps94
  go_wp2
  go_ret
  exact ⟨rfl, by go_grown⟩
 rw [if_neg h3]
 have h3' : ((n : Int) == 0) = false := by simpa using h3
 by_cases h4 : 4 < n
 ·rw [if_pos h4]
  go_enter Tryz.func94, Tryz.ntmps94
  go_wp2
  go_ret
  exact ⟨rfl, by go_grown⟩
 rw [if_neg h4]
 cases t
 all_goals
  go_enter Tryz.func94, Tryz.ntmps94
  go_wp2_with (go_at_call 126; refine (HL.out _ (HV.out.alloc _)).mono ?_; rintro e w1 ⟨rfl, rfl⟩)
  go_ret
  exact ⟨rfl, by go_grown⟩
def folB (a x : Sk) : Bool := x.n == a.n + 1 && x.p.time == a.p.time
def nextB (a x : Sk) : Bool := !x.p.f && folB a x
set_option maxHeartbeats 1000000 in
theorem follows_any (a x : Sk) (w : World) (ha : 0 ≤ a.n ∧ a.n ≤ 1000000001) :
  Calls Tryz.prog 150 #[a.val, x.val] w fun e w' => e = .returned (.bool (folB a x)) ∧ Below w.heap.size w w' := by
 obtain ⟨an, a0, a1, a2, a3, a4, a5⟩ := a
 obtain ⟨xn, x0, x1, x2, x3, x4, x5⟩ := x
 simp only [Sk.val, folB] at ha ⊢
 obtain ⟨h1, h2⟩ := ha
 by_cases hn : xn = an + 1
 ·have e1 : (xn == an + 1) = true := by simpa using hn
  rw [e1, Bool.true_and]
  clear hn
  go_enter Tryz.func150, Tryz.ntmps150
  go_wp2
  go_ret
  exact ⟨rfl, by go_grown⟩
 ·have e1 : (xn == an + 1) = false := by simpa using hn
  rw [e1, Bool.false_and]
  clear hn
  go_enter Tryz.func150, Tryz.ntmps150
  go_wp2
  go_ret
  exact ⟨rfl, by go_grown⟩
end Go.Proofs.YtnpaejknoipicagGreat
namespace Go.Proofs.YtnpaejknoipicagGreat
open Go.ChangeShapes Go.WideShapes Go.ChangeAt Go.RowKit
section
variable {H : Type} {enc : TypeId × Value → H} {W : World} {r : Reach} {b0 base : Nat} {spare : Nat → Bool} {held : Bool} {v : Value} {d : DataW H} {p : List MemPlace}
theorem Tryz.cellsFrm : Tryz.prog.cellsOf 98 = 3 := by kernel_rfl
theorem Tryz.cellsStrs : Tryz.prog.cellsOf 96 = 1 := by kernel_rfl
theorem list1 {α : Type} {l : List α} (h : l.length = 1) : ∃ c0, l = [c0] := by
 match l, h with
 | [c0], _ => exact ⟨c0, rfl⟩
theorem list3 {α : Type} {l : List α} (h : l.length = 3) : ∃ c0 c1 c2, l = [c0, c1, c2] := by
 match l, h with
 | [c0, c1, c2], _ => exact ⟨c0, c1, c2, rfl⟩
set_option maxRecDepth 100000 in
theorem trod_strs {fuel : Nat} {cs : List Value} {x : DataW H × List MemPlace} (h : DataW.trod enc Tryz.prog W base spare held fuel 96 cs = some x) :
  ∃ (u : Value) (l : List ByteArray), cs = [u] ∧ Strs W u l ∧ (∀ s ∈ l, s.size ≤ maxLen) ∧ l.length ≤ maxLen ∧ (∀ a n c, u = .slice a n c → n ≤ c) := by
 rcases Go.Deep.open_slice Tryz.underlying96 h with ⟨rfl, rfl⟩ | ⟨a, len, cap, m, n, D, Pl, rfl, hb, hl, hm, hmm, rfl, hx⟩
 ·exact ⟨_, [], rfl, Strs.nil W, by simp, by simp, fun a n c e => by cases e; exact Nat.le_refl _⟩
 ·have hlm : len ≤ m := by rw [hmm]; split <;> omega
  rw [Tryz.cellsS] at hx
  have each : ∀ i, i < len → ∃ s : ByteArray, s.size ≤ maxLen ∧ W.cell? (a.add i) = some (.string s) := fun i hi => by
   obtain ⟨cs', h1, h2⟩ := hx i (by omega)
   obtain ⟨s, hs, _, hw⟩ := DataW.trod_string Tryz.underlying9 h2
   obtain ⟨_, hl1, hc⟩ := World.cells?_some h1
   refine ⟨s, hw, ?_⟩
   have := hc 0 (by omega)
   rw [hs, Go.Deep.add_add] at this
   simpa using this
  obtain ⟨f, hf⟩ := Go.Deep.choose_lt each
  have hll : ((List.range len).map f).length = len := by simp
  refine ⟨_, (List.range len).map f, rfl, ?_, ?_, by rw [hll]; omega, fun a' n' c' e => by cases e; exact hl⟩
  ·show Sl W _ _ 1 _
   rw [hll]
   refine ⟨by simp, ?_⟩
   by_cases h0 : len = 0
   ·subst h0
    exact .inl ⟨rfl, _, _, rfl⟩
   ·right
    obtain ⟨b, off, spot⟩ := a
    have hc0 := (hf 0 (by omega)).2
    have hspot : spot = none := by simpa [Addr.add] using World.cell?_spot hc0
    subst hspot
    refine ⟨b, off, cap, rfl, by simpa [Addr.add] using World.block_lt_of_cell? W _ hc0, fun j u hj => ?_⟩
    have hjl : j < len := by
     have := (List.getElem?_eq_some_iff.1 hj).1
     simpa using this
    rw [List.getElem?_map, List.getElem?_map, List.getElem?_range hjl] at hj
    simp at hj
    subst hj
    have := (hf j hjl).2
    rw [Addr.add_lit] at this
    exact this
  ·intro s hs
   obtain ⟨i, hi, rfl⟩ := List.mem_map.1 hs
   exact (hf i (by simpa using hi)).1
end
end Go.Proofs.YtnpaejknoipicagGreat
namespace Go.Proofs.YtnpaejknoipicagGreat
open Go.RowKit
theorem Blk.three {w : World} {b : Nat} {t : TypeId} {x0 x1 x2 : Value} (h : Blk w b #[x0, x1, x2] t) :
  w.cell? ⟨b, 0, none⟩ = some x0 ∧ w.cell? ⟨b, 1, none⟩ = some x1 ∧ w.cell? ⟨b, 2, none⟩ = some x2 := ⟨h.cell rfl, h.cell rfl, h.cell rfl⟩
theorem Sls.alloc {w : World} {v : Value} {l : List Sk} (h : Sls w v l) (o : Obj) : Sls (w.alloc o) v l := h.below ((Below.refl _ w).alloc (Nat.le_refl _) _)
theorem Apart_type {w : World} {K g : Nat} {C D : Array Value} {s t : TypeId} (hK : Blk w K C s) (hg : Blk w g D t) (hst : s ≠ t) : K ≠ g := fun e => by
 subst e
 have h1 : w.heap[K]? = some (.cells C s (0, 0)) := hK
 have h2 : w.heap[K]? = some (.cells D t (0, 0)) := hg
 rw [h1] at h2
 injection h2 with h2
 injection h2 with _ h2 _
 exact hst h2
theorem owns_blk {w : World} {base : Nat} {e : TypeId} {size : Nat} {v : Value} {n : Nat} {xs : List Value} (h : w.ownsRow base e size v n xs) {g : Nat} (hg : v.ownBlock = some g) : base ≤ g ∧ ∃ cur, Blk w g cur e := by
 obtain ⟨_, ⟨rfl, _⟩ | ⟨g', cap, cur, rfl, hb, hh, _⟩⟩ := h
 ·simp [Value.ownBlock] at hg
 ·simp [Value.ownBlock] at hg; subst hg; exact ⟨hb, cur, hh⟩
theorem heap_drewN (w : World) (q : Nat) : (w.drewN q).heap = w.heap := rfl
theorem below_drewN {B : Nat} {w w' : World} (h : Below B w w') (q : Nat) : Below B w (w'.drewN q) := h.trans ⟨rfl, rfl, rfl, Nat.le_refl _, fun _ _ => rfl⟩
theorem Blk.two {w : World} {b : Nat} {t : TypeId} {x0 x1 : Value} (h : Blk w b #[x0, x1] t) : w.cell? ⟨b, 0, none⟩ = some x0 ∧ w.cell? ⟨b, 1, none⟩ = some x1 := ⟨h.cell rfl, h.cell rfl⟩
theorem owns_base {w : World} {base base' : Nat} {e : TypeId} {size : Nat} {v : Value} {n : Nat} {xs : List Value} (h : w.ownsRow base e size v n xs) (hb : base' ≤ base) : w.ownsRow base' e size v n xs := by
 obtain ⟨hl, h | ⟨g, cap, cur, rfl, h0, hh, h1, h2, h3, h4⟩⟩ := h
 ·exact ⟨hl, .inl h⟩
 ·exact ⟨hl, .inr ⟨g, cap, cur, rfl, by omega, hh, h1, h2, h3, h4⟩⟩
def Fresh (base : Nat) (w : World) (v : Value) (l : List Sk) : Prop := Sls w v l ∧ ∀ g, v.ownBlock = some g → base ≤ g ∧ g < w.heap.size
theorem Fresh.nil (base : Nat) (w : World) : Fresh base w (.slice none 0 0) [] := ⟨Sls.nil w, fun g hg => by simp [Value.ownBlock] at hg⟩
theorem Fresh.set {base : Nat} {w : World} {v : Value} {l : List Sk} (h : Fresh base w v l) {p : Addr} (hp : p.block < base) (u : Value) : Fresh base (w.setCell p u) v l := by
 obtain ⟨⟨hl, hs⟩, hg⟩ := h
 refine ⟨⟨hl, ?_⟩, fun g e => by have := hg g e; simpa using this⟩
 rcases hs with hs | ⟨b, off, c, rfl, hb, hc⟩
 ·exact .inl hs
 ·refine .inr ⟨b, off, c, rfl, by simpa using hb, fun j x hj => ?_⟩
  have := (hg b rfl).1
  exact (World.cell?_of_block (Below.heap_setCell w p u b (by omega))).trans (hc j x hj)
theorem Fresh.base {base base' : Nat} {w : World} {v : Value} {l : List Sk} (h : Fresh base w v l) (hb : base' ≤ base) : Fresh base' w v l := ⟨h.1, fun g hg => by have := h.2 g hg; omega⟩
theorem Fresh.below {base : Nat} {w w' : World} {v : Value} {l : List Sk} (h : Fresh base w v l) (hb : Below w.heap.size w w') : Fresh base w' v l := ⟨h.1.below hb, fun g hg => by have := h.2 g hg; have := hb.size; omega⟩
theorem blocks3 {w w1 : World} {A B C : Array Value} {s t u : TypeId} (hb : Below (((w.alloc (.cells A s)).alloc (.cells B t)).alloc (.cells C u)).heap.size (((w.alloc (.cells A s)).alloc (.cells B t)).alloc (.cells C u)) w1) :
  Blk w1 w.heap.size A s ∧ Blk w1 (w.heap.size + 1) B t ∧ Blk w1 (w.heap.size + 1 + 1) C u ∧ Below w.heap.size w w1 ∧ w.heap.size + 1 + 1 + 1 ≤ w1.heap.size := by
 have hs := hb.size
 simp only [World.size_alloc] at hs
 have h2 := (((Blk.new w A s).alloc (.cells B t)).alloc (.cells C u)).below hb (by simp; omega)
 have h3 := ((Blk.new (w.alloc (.cells A s)) B t).alloc (.cells C u)).below hb (by simp)
 have h4 := (Blk.new ((w.alloc (.cells A s)).alloc (.cells B t)) C u).below hb (by simp)
 simp only [World.size_alloc] at h3 h4
 exact ⟨h2, h3, h4, ((((Below.refl _ w).alloc (Nat.le_refl _) _).alloc (by simp) _).alloc (by simp; omega) _).trans (hb.mono (by simp; omega)), hs⟩
theorem blocks2 {w w1 : World} {A B : Array Value} {s t : TypeId} (hb : Below ((w.alloc (.cells A s)).alloc (.cells B t)).heap.size ((w.alloc (.cells A s)).alloc (.cells B t)) w1) :
  Blk w1 w.heap.size A s ∧ Blk w1 (w.heap.size + 1) B t ∧ Below w.heap.size w w1 ∧ w.heap.size + 1 + 1 ≤ w1.heap.size := by
 have hs := hb.size
 simp only [World.size_alloc] at hs
 have h2 := ((Blk.new w A s).alloc (.cells B t)).below hb (by simp; omega)
 have h3 := (Blk.new (w.alloc (.cells A s)) B t).below hb (by simp)
 simp only [World.size_alloc] at h3
 exact ⟨h2, h3, (((Below.refl _ w).alloc (Nat.le_refl _) _).alloc (by simp) _).trans (hb.mono (by simp; omega)), hs⟩
theorem Below.on {a b c : World} (h : Below a.heap.size a b) (k : Below b.heap.size b c) : Below a.heap.size a c := h.trans (k.mono h.size)
theorem Tryz.infoStr : (Tryz.prog.info? 9).map (fun i => (i.zero, i.size, i.bytes)) = some (some (.string ⟨#[]⟩), 1, 16) := by kernel_rfl
def texts (l : List Sk) : List ByteArray := l.map fun x => x.p.t
set_option maxHeartbeats 2000000 in
set_option maxRecDepth 100000 in
theorem frameOf_any (v : Value) (x : Sk) (r : List Sk) (w : World) (hv : Sls w v (x :: r)) (hlen : (x :: r).length ≤ 100) :
  Calls Tryz.prog 119 #[v] w fun e w' => ∃ pv, e = .returned (.agg #[.int .i64 x.p.time, .bool x.p.k, pv]) ∧ Strs w' pv (texts (x :: r)) ∧ (∀ g, pv.ownBlock = some g → w.heap.size ≤ g ∧ ∃ cur, Blk w' g cur 9) ∧ Below w.heap.size w w' := by
 obtain ⟨i0, hi, hz0, hz1, hz2⟩ := info_parts Tryz.infoStr
 obtain ⟨ao, c, hva, hc⟩ := hv.parts
 obtain ⟨l, hl⟩ : ∃ l, l = x :: r := ⟨_, rfl⟩
 rw [← hl] at hva hc hlen ⊢
 have HL : Hid (l = x :: r) := hl
 have HC : Hid (∀ k, k < l.length → ∃ b off, ao = some ⟨b, off, none⟩ ∧ b < w.heap.size ∧ At7 w b (off + k * 7) (l[k]?.getD Sk.zero)) := hc
 obtain ⟨n, hn⟩ : ∃ n, n = l.length := ⟨_, rfl⟩
 have HN : Hid (n = l.length) := hn
 have hn0 : 0 < n := by rw [hn, hl]; simp
 rw [← hn] at hva hlen
 obtain ⟨b, off, hao, hb, hat⟩ := hc 0 (by omega)
 have hx0 : l[0]?.getD Sk.zero = x := by rw [hl]; rfl
 rw [hx0] at hat
 simp only [Nat.zero_mul, Nat.add_zero] at hat
 obtain ⟨c0, c1, c2, c3, c4, c5, c6⟩ := hat
 subst hva
 subst hao
 have hni : (0 : Int) < (n : Int) := by omega
 have hlt1 : b < w.heap.size + 1 := by omega
 clear hv hc hn hl hx0
 go_enter Tryz.func119, Tryz.ntmps119
 go_wp2
 go_region
 go_wp2
 clear c0 c1 c2 c3 c4 c5 c6
 go_loopw [19] (fun i wr => ∃ (k : Nat) (pv : Value), k ≤ n ∧ i = .int .i64 k ∧ Hid (Blk wr w.heap.size #[.int .i64 0, .bool false, .slice none 0 0] 98) ∧ Hid (Blk wr (w.heap.size + 1) #[.int .i64 x.p.time, .bool x.p.k, pv] 98) ∧ Hid (wr.ownsRow (w.heap.size + 1 + 1) 9 1 pv k ((texts (l.take k)).map Value.string)) ∧ Hid (Below w.heap.size w wr))
  (fun i _ => n - (intOf i).toNat)
 case atStart =>
  refine ⟨0, .slice none 0 0, Nat.zero_le _, rfl, (Blk.new w _ _).alloc _, ?_, World.ownsRow_nil _ _ _ _, (((Below.refl _ w).alloc (Nat.le_refl _) _).alloc (by simp) _).drew⟩
  have := Blk.new (w.alloc (.cells #[.int .i64 0, .bool false, .slice none 0 0] 98)) #[.int .i64 x.p.time, .bool x.p.k, .slice none 0 0] 98
  simp only [World.size_alloc] at this
  exact this
 case round =>
  obtain ⟨k, pv, hk, rfl, K0, K1, HO, HB⟩ := hrel
  obtain ⟨d0, d1, d2⟩ := Blk.three K1.out
  have hsz := Blk.lt K1.out
  by_cases hlt : k < n
  ·obtain ⟨b', off', hbo, hbb, hat⟩ := HC.out k (by rw [← HN.out]; exact hlt)
   cases hbo
   obtain ⟨c0, c1, c2, c3, c4, c5, c6⟩ := hat.below HB.out hbb
   obtain ⟨y, hy⟩ : ∃ y, y = l[k]?.getD Sk.zero := ⟨_, rfl⟩
   rw [← hy] at c0 c1 c2 c3 c4 c5 c6
   have HY : Hid (y = l[k]?.getD Sk.zero) := hy
   clear hy hat
   have hlti : (k : Int) < (n : Int) := by omega
   have WA : ∀ o1 o2 : Obj, w.heap.size + 1 < ((wr.alloc o1).alloc o2).heap.size := fun _ _ => by simp; omega
   have own1 : Hid (((wr.alloc (.cells #[.int .i64 y.n, .int .i64 y.p.seq, .int .i64 y.p.time, .bool y.p.f, .bool y.p.e, .bool y.p.k, .string y.p.t] 106)).alloc (.cells #[.string y.p.t] 9)).ownsRow (w.heap.size + 1 + 1) 9 1 pv k ((texts (l.take k)).map Value.string)) := (HO.out.alloc _).alloc _
   have new1 : Hid (∀ j u, [Value.string y.p.t][j]? = some u → ((wr.alloc (.cells #[.int .i64 y.n, .int .i64 y.p.seq, .int .i64 y.p.time, .bool y.p.f, .bool y.p.e, .bool y.p.k, .string y.p.t] 106)).alloc (.cells #[.string y.p.t] 9)).cell? ((⟨wr.heap.size + 1, 0, none⟩ : Addr).add j) = some u) := fun j u hj => by
    match j, hj with
    | 0, hj =>
     simp at hj; subst hj
     exact World.cell?_alloc_at (w := wr.alloc _) _ _ _ _ (by simp)
   have aft : Hid (∀ v' w2, w2.ownsRow (w.heap.size + 1 + 1) 9 1 v' (k + 1) ((texts (l.take k)).map Value.string ++ [.string y.p.t]) → ((wr.alloc (.cells #[.int .i64 y.n, .int .i64 y.p.seq, .int .i64 y.p.time, .bool y.p.f, .bool y.p.e, .bool y.p.k, .string y.p.t] 106)).alloc (.cells #[.string y.p.t] 9)).grownBy w2 pv.ownBlock →
     ∃ a' c', v' = .slice a' (k + 1) c' ∧ w2.cell? ⟨w.heap.size + 1, 2, none⟩ = some pv ∧ w2.frozen? ⟨w.heap.size + 1, 2, none⟩ = false ∧
      Hid (∀ w3, Hid (w3 = w2.setCell ⟨w.heap.size + 1, 2, none⟩ (.slice a' (k + 1) c')) → Blk w3 w.heap.size #[.int .i64 0, .bool false, .slice none 0 0] 98 ∧ Blk w3 (w.heap.size + 1) #[.int .i64 x.p.time, .bool x.p.k, .slice a' (k + 1) c'] 98 ∧ w3.ownsRow (w.heap.size + 1 + 1) 9 1 (.slice a' (k + 1) c') (k + 1) ((texts (l.take (k + 1))).map Value.string) ∧ Below w.heap.size w w3)) := fun v' w2 ho2 hg2 => by
    obtain ⟨a', c', hv'⟩ := Sl.len (Sl.of_owns ho2)
    have hlow : ∀ j, j < w.heap.size + 1 + 1 → some j ≠ pv.ownBlock := fun j hj e => by have := (HO.out.lt j e.symm).1; omega
    have hblk : ∀ j, j < w.heap.size + 1 + 1 → w2.heap[j]? = wr.heap[j]? := fun j hj => by
     rw [hg2.block j (by simp; omega) (hlow j hj), Below.heap_alloc _ _ _ (by simp; omega), Below.heap_alloc _ _ _ (by omega)]
    have k12 : Blk w2 (w.heap.size + 1) #[.int .i64 x.p.time, .bool x.p.k, pv] 98 := (hblk _ (by omega)).trans K1.out
    have k02 : Blk w2 w.heap.size #[.int .i64 0, .bool false, .slice none 0 0] 98 := (hblk _ (by omega)).trans K0.out
    refine ⟨a', c', hv', k12.three.2.2, k12.free 2, fun w3 hw3 => ?_⟩
    rw [hw3.out]
    refine ⟨k02.other (by simp) _, k12.set 2 _, ?_, ?_⟩
    ·have e : (texts (l.take (k + 1))).map Value.string = (texts (l.take k)).map Value.string ++ [.string y.p.t] := by
      rw [take_one (by rw [← HN.out]; exact hlt) Sk.zero, ← HY.out]; simp [texts]
     rw [e, ← hv']
     exact ownsRow_setCell_below ho2 (by show w.heap.size + 1 < _; omega) _
    ·exact (((HB.out.alloc HB.out.size _).alloc (by have := HB.out.size; simp; omega) _).grown hg2 (by have := HB.out.size; simp; omega) (fun j hj => by have := (HO.out.lt j hj).1; omega)).setCell (by simp) _
   have l1 : Hid (k + 1 ≤ maxLen) := by show _ ≤ _; unfold maxLen; omega
   have l2 : Hid ((k + 1) * 16 ≤ 140737488355328) := by show _ ≤ _; omega
   have l3 : Hid (w.heap.size + 1 + 1 ≤ ((wr.alloc (.cells #[.int .i64 y.n, .int .i64 y.p.seq, .int .i64 y.p.time, .bool y.p.f, .bool y.p.e, .bool y.p.k, .string y.p.t] 106)).alloc (.cells #[.string y.p.t] 9)).heap.size) := by show _ ≤ _; simp; omega
   clear HO K0 K1
   go_wp2_with (at_builtin; refine wpList_append_own2 _ rfl _ _ 96 rfl (w.heap.size + 1 + 1) 9 i0 _ 1 16 Tryz.underlying96 hi hz0 hz1 hz2 rfl (by decide) _ k ((texts (l.take k)).map Value.string) rfl own1.out ⟨wr.heap.size + 1, 0, none⟩ 1 1 [.string y.p.t] rfl rfl new1.out (by intro u hu; simp at hu; subst hu; rfl) l1.out l2.out l3.out ?_; intro v' w2 ho2 hg2 _; obtain ⟨a', c', hv', g0, g1, G⟩ := aft.out v' w2 ho2 hg2; clear ho2 hg2; subst hv')
   go_roundw
   case rel =>
    obtain ⟨e1, e2, e3, e4⟩ := G.out _ rfl
    exact ⟨k + 1, _, by omega, by go_num, e1, e2, e3, e4⟩
   case measure => simp [intOf]; omega
  ·have hkl : k = n := by omega
   subst hkl
   obtain ⟨z0, z1, z2⟩ := Blk.three K0.out
   have zf := Blk.free K0.out
   have ho := HO.out
   rw [HN.out, List.take_length, ← HN.out] at ho
   obtain ⟨a', c', hpv⟩ := Sl.len (Sl.of_owns ho)
   subst hpv
   have HO2 : Hid (wr.ownsRow (w.heap.size + 1 + 1) 9 1 (.slice a' k c') k ((texts l).map Value.string)) := ho
   clear ho HO K0 K1
   go_wp2
   refine bodyPost_ret (v := .agg #[.int .i64 x.p.time, .bool x.p.k, .slice a' k c']) (by simp [results, Tryz.results119, go_sem, z0, z1, z2]) rfl ⟨_, rfl, ?_, ?_, ?_⟩
   ·have h3 : World.ownsRow (((wr.setCell ⟨w.heap.size, 0, none⟩ (.int .i64 x.p.time)).setCell ⟨w.heap.size, 1, none⟩ (.bool x.p.k)).setCell ⟨w.heap.size, 2, none⟩ (.slice a' k c')) (w.heap.size + 1 + 1) 9 1 (.slice a' k c') k ((texts l).map Value.string) :=
     ownsRow_setCell_below (ownsRow_setCell_below (ownsRow_setCell_below HO2.out (by show w.heap.size < _; omega) _) (by show w.heap.size < _; omega) _) (by show w.heap.size < _; omega) _
    have := Sl.of_owns h3
    have e : (texts l).length = k := by rw [HN.out]; simp [texts]
    show Sl _ _ (texts l).length 1 _
    rw [e]
    exact this
   ·intro g hg
    obtain ⟨hh1, cur, hh2⟩ := owns_blk HO2.out hg
    have hne : g ≠ w.heap.size := by omega
    exact ⟨by omega, cur, ((hh2.other (by exact hne) _).other (by exact hne) _).other (by exact hne) _⟩
   ·exact ((HB.out.setCell (by simp) _).setCell (by simp) _).setCell (by simp) _
section
variable {P : Program}
theorem run_copy_many (w : World) (dT sT ty elem : TypeId) (size g o dLen dCap : Nat) (a : Addr) (sLen sCap : Nat) (cur : Array Value) (t : TypeId) (cs : List Value)
  (hu : P.underlying dT = some (.slice elem)) (hs : (P.info? elem).map (·.size) = some size) (hg : w.heap[g]? = some (.cells cur t (0, 0))) (hn : cs.length = Nat.min sLen dLen * size)
  (hsrc : ∀ j v, cs[j]? = some v → w.cell? (a.add j) = some v) (hfit : o + cs.length ≤ cur.size) (h1 : ∀ v ∈ cs, v.oneCell' = true) :
  (Builtin.copy_ #[dT, sT] ty #[.slice (some ⟨g, o, none⟩) dLen dCap, .slice (some a) sLen sCap]).run P w =
   .ok (goInt (Nat.min sLen dLen)) (w.setRow g (cur.toList.take o ++ cs ++ cur.toList.drop (o + cs.length)).toArray) := by
 have hst := run_storeCells_at P g o t cs 0 cur w hg (by simpa using hfit) h1
 have hf := run_firstCells_some (P := P) w size (Nat.min sLen dLen) a sLen sCap cs hn hsrc
 cases hq : P.info? elem with
 | none => simp [hq] at hs
 | some i =>
  have hi : i.size = size := by simpa [hq] using hs
  simp [Builtin.copy_, run_underlying hu, Builtin.lenOf, sizeOf, typeInfo, hq, hi, hf, hst]
theorem wpList_run {w : World} {ops : Array Oper} {rest : List Oper} {o : Oper} {a : Act} {Q : Exit → Act → World → Prop} (hgd : o.guard = none) (d s : Operand) (t t' : TypeId)
  (ho : o.op = .call { callee := .builtin .copy, args := #[d, s], argTypes := #[t, t'] }) (v u : Value) (hd : a.eval d = v) (hs : a.eval s = u) {v' : Value} {w' : World}
  (hr : (Builtin.copy_ #[t, t'] o.type #[v, u]).run P w = .ok v' w') (h : wpList P ops Q rest (a.put o.dst v') w') : wpList P ops Q (o :: rest) a w := by
 refine wpList_plain hgd fun K hK => ?_
 unfold Oper.wp execOp
 simp only [ho, resolve, invoke, builtin, Sem.run_bind, Sem.run_pure, Result.andThen_ok, List.map_toArray, List.map_cons, List.map_nil, hd, hs, hr]
 exact hK _ _ h
theorem step_run {ops : Array Oper} {o : Oper} {a : Act} {w : World} {K : Act → World → Prop} {Q : Exit → Act → World → Prop} {E : Prop} (hgd : o.guard = none) (d s : Operand) (t t' : TypeId)
  (ho : o.op = .call { callee := .builtin .copy, args := #[d, s], argTypes := #[t, t'] }) (v u : Value) (hd : a.eval d = v) (hs : a.eval s = u) {v' : Value} {w' : World}
  (hr : (Builtin.copy_ #[t, t'] o.type #[v, u]).run P w = .ok v' w') (h : K (a.put o.dst v') w') :
  if Region.wanted o (yielded ops a.tmps) = true then Oper.wp P o a w K Q else E := by
 have hw : Region.wanted o (yielded ops a.tmps) = true := by simp [Region.wanted, hgd]
 rw [if_pos hw]
 unfold Oper.wp
 simp [execOp, ho, resolve, invoke, builtin, hd, hs, hr, Result.andThen]
 exact h
theorem step_append_own2 {ops : Array Oper} {o : Oper} {a : Act} {w : World} {K : Act → World → Prop} {Q : Exit → Act → World → Prop} {E : Prop} (hgd : o.guard = none) (s x : Operand) (t : TypeId)
  (ho : o.op = .call { callee := .builtin .append, args := #[s, x], argTypes := #[t, t] })
  (base : Nat) (e : TypeId) (i : TypeInfo) (z : Value) (size bytes : Nat) (ht : P.underlying t = some (.slice e)) (hi : P.info? e = some i) (hz : i.zero = some z)
  (hsize : i.size = size) (hby : i.bytes = bytes) (hzs : z.cells.size = size) (hsz : 0 < size)
  (v : Value) (n : Nat) (xs : List Value) (hs : a.eval s = v) (hown : w.ownsRow base e size v n xs)
  (ad : Addr) (m c : Nat) (news : List Value) (hx : a.eval x = .slice (some ad) m c) (hl : news.length = m * size) (hnews : ∀ j u, news[j]? = some u → w.cell? (ad.add j) = some u) (h1 : ∀ u ∈ news, u.oneCell' = true)
  (h63 : n + m ≤ maxLen) (hbytes : (n + m) * bytes ≤ 140737488355328) (hbase : base ≤ w.heap.size)
  (h : ∀ v' w', w'.ownsRow base e size v' (n + m) (xs ++ news) → w.grownBy w' v.ownBlock → (v'.ownBlock = v.ownBlock ∨ ∀ g, v'.ownBlock = some g → w.heap.size ≤ g) → K (a.put o.dst v') w') :
  if Region.wanted o (yielded ops a.tmps) = true then Oper.wp P o a w K Q else E := by
 have hw : Region.wanted o (yielded ops a.tmps) = true := by simp [Region.wanted, hgd]
 rw [if_pos hw]
 obtain ⟨v', w', hr, h2, h3, h4⟩ := run_append_own2 (P := P) w base t o.type e i z size bytes ht hi hz hsize hby hzs hsz v n xs hown ad m c news hl hnews h1 h63 hbytes hbase
 unfold Oper.wp
 simp [execOp, ho, resolve, invoke, builtin, hs, hx, hr, Result.andThen]
 exact h v' w' h2 h3 h4
end
end Go.Proofs.YtnpaejknoipicagGreat
