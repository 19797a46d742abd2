/-
  append on a row of the call's own, from whatever source; as a step of a plain region.
-/
import Derived.Test.YtnpaejknoipicadRegApp
namespace Go.Proofs.Ytnpaejknoipicad
open Go.RowKit

section
variable {P : Program}

theorem run_append_nil2 (w : World) (T ty E : TypeId) (i : TypeInfo) (ht : P.underlying T = some (.slice E)) (hi : P.info? E = some i) (c' : Nat) :
    (Builtin.append_ #[T, T] ty #[.slice none 0 0, .slice none 0 c']).run P w = .ok (.slice none 0 0) w := by
  simp [Builtin.append_, run_underlying ht, sizeOf, typeInfo, hi, Builtin.lenOf, run_firstCells_none]

/-- append to a row of the call's own: what is appended may lie anywhere, or be nil -/
theorem run_append_any (w : World) (base : Nat) (T ty E : TypeId) (i : TypeInfo) (z : Value) (size bytes : Nat) (ht : P.underlying T = some (.slice E)) (hi : P.info? E = some i) (hz : i.zero = some z) (hsize : i.size = size) (hby : i.bytes = bytes) (hzs : z.cells.size = size) (hsz : 0 < size)
    (v : Value) (n : Nat) (xs : List Value) (hown : w.ownsRow base E size v n xs) (m : Nat) (cells : List Value) (u : Value) (hu : Sl w u m size cells) (hc1 : ∀ y ∈ cells, y.oneCell' = true) (h63 : n + m ≤ maxLen) (hbytes : (n + m) * bytes ≤ 140737488355328) (hbase : base ≤ w.heap.size) :
    ∃ v' w', (Builtin.append_ #[T, T] ty #[v, u]).run P w = .ok v' w' ∧ w'.ownsRow base E size v' (n + m) (xs ++ cells) ∧ w.grownBy w' v.ownBlock ∧ (v'.ownBlock = v.ownBlock ∨ ∀ g, v'.ownBlock = some g → w.heap.size ≤ g) := by
  have main : ∀ (ad : Addr) (c : Nat), u = .slice (some ad) m c → (∀ j y, cells[j]? = some y → w.cell? (ad.add j) = some y) → ∃ v' w', (Builtin.append_ #[T, T] ty #[v, u]).run P w = .ok v' w' ∧ w'.ownsRow base E size v' (n + m) (xs ++ cells) ∧ w.grownBy w' v.ownBlock ∧ (v'.ownBlock = v.ownBlock ∨ ∀ g, v'.ownBlock = some g → w.heap.size ≤ g) := fun ad c e hcn => by
    subst e
    exact run_append_own2 (P := P) w base T ty E i z size bytes ht hi hz hsize hby hzs hsz v n xs hown ad m c cells hu.1 hcn hc1 h63 hbytes hbase
  obtain ⟨hl, ⟨h0, a, c, rfl⟩ | ⟨b, off, c, rfl, hlt, hc⟩⟩ := hu
  · subst h0
    have hce : cells = [] := List.eq_nil_of_length_eq_zero (by simpa using hl)
    subst hce
    cases a with
    | some ad => exact main ad c rfl (fun j y h => by simp at h)
    | none =>
      rw [Nat.add_zero, List.append_nil]
      refine ⟨v, w, ?_, hown, ⟨rfl, rfl, rfl, Nat.le_refl _, fun _ _ _ => rfl⟩, .inl rfl⟩
      obtain ⟨_, ⟨h1, h2⟩ | ⟨g, cap, cur, h1, _, _, h3, _⟩⟩ := hown
      · rw [h1]; exact run_append_nil2 w T ty E i ht hi c
      · rw [h1]; exact run_append_nil w T ty E i ht hi g n cap c h3
  · exact main ⟨b, off, none⟩ c rfl (fun j y hj => by rw [Addr.add_lit]; exact hc j y hj)

theorem wpList_append_run {w : World} {ops : Array Oper} {rest : List Oper} {o : Oper} {a : Act} {Q : Exit → Act → World → Prop} (hgd : o.guard = none) (d s : Operand) (t t' : TypeId)
    (ho : o.op = .call { callee := .builtin .append, args := #[d, s], argTypes := #[t, t'] }) (v u : Value) (hd : a.eval d = v) (hs : a.eval s = u) {v' : Value} {w' : World}
    (hr : (Builtin.append_ #[t, t'] o.type #[v, u]).run P w = .ok v' w') (h : wpList P ops Q rest (a.put o.dst v') w') : wpList P ops Q (o :: rest) a w := by
  refine wpList_plain hgd fun K hK => ?_
  unfold Oper.wp execOp
  simp only [ho, resolve, invoke, builtin, Sem.run_bind, Sem.run_pure, Result.andThen_ok, List.map_toArray, List.map_cons, List.map_nil, hd, hs, hr]
  exact hK _ _ h

theorem wpList_append_runG {w : World} {ops : Array Oper} {rest : List Oper} {o : Oper} {a : Act} {Q : Exit → Act → World → Prop} (hw : Region.wanted o (yielded ops a.tmps) = true) (d s : Operand) (t t' : TypeId)
    (ho : o.op = .call { callee := .builtin .append, args := #[d, s], argTypes := #[t, t'] }) (v u : Value) (hd : a.eval d = v) (hs : a.eval s = u) {v' : Value} {w' : World}
    (hr : (Builtin.append_ #[t, t'] o.type #[v, u]).run P w = .ok v' w') (h : wpList P ops Q rest (a.put o.dst v') w') : wpList P ops Q (o :: rest) a w := by
  unfold wpList
  rw [if_pos hw]
  left
  unfold Oper.wp execOp
  simp only [ho, resolve, invoke, builtin, Sem.run_bind, Sem.run_pure, Result.andThen_ok, List.map_toArray, List.map_cons, List.map_nil, hd, hs, hr]
  exact h

theorem step_append_run {ops : Array Oper} {o : Oper} {a : Act} {w : World} {K : Act → World → Prop} {Q : Exit → Act → World → Prop} {E : Prop} (hgd : o.guard = none) (d s : Operand) (t t' : TypeId)
    (ho : o.op = .call { callee := .builtin .append, args := #[d, s], argTypes := #[t, t'] }) (v u : Value) (hd : a.eval d = v) (hs : a.eval s = u) {v' : Value} {w' : World}
    (hr : (Builtin.append_ #[t, t'] o.type #[v, u]).run P w = .ok v' w') (h : K (a.put o.dst v') w') :
    if Region.wanted o (yielded ops a.tmps) = true then Oper.wp P o a w K Q else E := by
  have hw : Region.wanted o (yielded ops a.tmps) = true := by simp [Region.wanted, hgd]
  rw [if_pos hw]
  unfold Oper.wp
  simp [execOp, ho, resolve, invoke, builtin, hd, hs, hr, Result.andThen]
  exact h

/-- 'append(append([]T{}, a...), b...)' -/
theorem app_two (w : World) (T E : TypeId) (i : TypeInfo) (z : Value) (size bytes : Nat) (ht : P.underlying T = some (.slice E)) (hi : P.info? E = some i) (hz : i.zero = some z) (hsize : i.size = size) (hby : i.bytes = bytes) (hzs : z.cells.size = size) (hsz : 0 < size)
    (a b : Value) (n m : Nat) (xs ys : List Value) (ha : Sl w a n size xs) (hb : Sl w b m size ys) (hx : ∀ y ∈ xs, y.oneCell' = true) (hy : ∀ y ∈ ys, y.oneCell' = true) (h63 : n + m ≤ maxLen) (hbytes : (n + m) * bytes ≤ 140737488355328) :
    ∃ v3 w3 v4 w4, (Builtin.append_ #[T, T] T #[.slice (some ⟨w.heap.size, 0, none⟩) 0 0, a]).run P (w.alloc (.cells #[] E)) = .ok v3 w3 ∧ (Builtin.append_ #[T, T] T #[v3, b]).run P w3 = .ok v4 w4 ∧ w4.ownsRow w.heap.size E size v4 (n + m) (xs ++ ys) ∧ Below w.heap.size w w4 := by
  have hle : n * bytes ≤ (n + m) * bytes := Nat.mul_le_mul_right _ (by omega)
  have bA : Below w.heap.size w (w.alloc (.cells #[] E)) := (Below.refl _ w).alloc (Nat.le_refl _) _
  obtain ⟨v3, w3, r3, o3, g3, _⟩ := run_append_any (P := P) (w.alloc (.cells #[] E)) w.heap.size T T E i z size bytes ht hi hz hsize hby hzs hsz (.slice (some ⟨w.heap.size, 0, none⟩) 0 0) 0 [] (World.ownsRow_lit (base := w.heap.size) (e := E) (size := size) w #[] 0 (Nat.le_refl _) (by unfold maxLen; omega) (by simp)) n xs a (ha.below bA) hx (by omega) (by rw [Nat.zero_add]; omega) (by simp)
  rw [Nat.zero_add, List.nil_append] at o3
  have b3 : Below w.heap.size w w3 := bA.grown g3 (by simp) (fun j hj => by simp [Value.ownBlock] at hj; omega)
  obtain ⟨v4, w4, r4, o4, g4, _⟩ := run_append_any (P := P) w3 w.heap.size T T E i z size bytes ht hi hz hsize hby hzs hsz v3 n xs o3 m ys b (hb.below b3) hy h63 hbytes b3.size
  exact ⟨v3, w3, v4, w4, r3, r4, o4, b3.grown g4 b3.size (fun j hj => (o3.lt j hj).1)⟩
end
end Go.Proofs.Ytnpaejknoipicad
