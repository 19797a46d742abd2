/-
  The walk of switchbacklaw.BufferRises.
-/
import Derived.Test.YtanefofheeecdabBufIs
import Derived.Test.YtanefofheeecdabAppAny
import Derived.Deep.DeepCutAuto
namespace Go.Proofs.Ytanefofheeecdab
open Go.RowKit

/-- what comes of a step: a buffer that is right, and what went out -/
structure Went (C : List Sk) (nx n' : Int) (h' o : List Sk) : Prop where
  right : Right n' h'
  le : nx ≤ n'
  outs : ∀ y ∈ o, y ∈ C ∧ nx ≤ y.n ∧ y.n < n'
  up : upB (nx - 1) o = true
  sub : ∀ y ∈ h', y ∈ C
theorem went_put {C : List Sk} {nx : Int} {h : List Sk} {x : Sk} (hR : Right nx h) (hs : ∀ y ∈ h, y ∈ C) (hx : x.chk = 0) (hxC : x ∈ C) : Went C nx (putF nx h x).1 (putF nx h x).2.1 (putF nx h x).2.2 := by
  obtain ⟨i1, i2, i3, i4, i5, _, _⟩ := put_inv hR hx
  have hm : ∀ y, y = x ∨ y ∈ h → y ∈ C := fun y hy => by rcases hy with rfl | hy; exact hxC; exact hs y hy
  exact ⟨i1, i2, fun y hy => ⟨hm y (i3 y hy).1, (i3 y hy).2⟩, i4, fun y hy => hm y (i5 y hy)⟩
theorem went_flush {C : List Sk} {nx : Int} {h : List Sk} (hR : Right nx h) (hs : ∀ y ∈ h, y ∈ C) : Went C nx (relF 0 nx h []).1 (relF 0 nx h []).2.1 (relF 0 nx h []).2.2 ∧ (relF 0 nx h []).2.1 = [] := by
  obtain ⟨i1, i2, i3, i4, i5⟩ := flush_inv hR
  exact ⟨⟨i1, i2, fun y hy => ⟨hs y (i3 y hy).1, (i3 y hy).2⟩, i4, fun y hy => by rw [i5] at hy; cases hy⟩, i5⟩
theorem relF_lens' (most : Nat) : ∀ (h : List Sk) (nx : Int) (o : List Sk), (relF most nx h o).2.2.length ≤ h.length + o.length := by
  intro h
  induction h with
  | nil => intro nx o; simp [relF]
  | cons y r ih =>
    intro nx o
    unfold relF
    split
    · have := ih (nx + 1) (o ++ [y]); simp at this ⊢; omega
    · split
      · simp
      · have := ih (y.n + 1) (o ++ [y]); simp at this ⊢; omega
theorem put_len {next : Int} {l : List Sk} {x : Sk} (hR : Right next l) : (putF next l x).2.2.length ≤ 5 := by
  have h4 := hR.2.1
  unfold putF
  generalize (if next = 0 then x.n else next) = nx
  by_cases h1 : x.n < nx
  · rw [if_pos h1]; simp
  · rw [if_neg h1]
    by_cases h2 : (l.any fun y => y.n == x.n) = true
    · rw [if_pos h2]; simp
    · rw [if_neg h2]
      have := relF_lens' 4 (insF l x) nx []
      rw [insF_len] at this
      simp at this; omega
theorem upB_step {a : Int} {o : List Sk} (h : upB a o = true) (k : Nat) (hk : k < o.length) : (if k = 0 then a else (o[k - 1]?.getD Sk.zero).n) < (o[k]?.getD Sk.zero).n := by
  induction o generalizing a k with
  | nil => simp at hk
  | cons y r ih =>
    simp only [upB, Bool.and_eq_true, decide_eq_true_eq] at h
    cases k with
    | zero => simpa using h.1
    | succ k =>
      have := ih h.2 k (by simpa using hk)
      cases k with
      | zero => simpa using this
      | succ k => simpa using this

set_option maxHeartbeats 4000000 in
set_option maxRecDepth 100000 in
theorem bufferRises_any (next : Int) (v : Value) (l : List Sk) (u : Value) (m : List Sk) (w : World) (hv : Sls w v l) (hu : Sls w u m) (hlen : l.length ≤ 9223372036854775807) (hm : m.length * 48 ≤ 140737488351232) :
    Calls Try.prog 5 #[.agg #[.int .i64 next, v], u] w fun e w' => e = .returned (.bool true) ∧ Below w.heap.size w w' := by
  obtain ⟨i0, hi, hz0, hz1, hz2⟩ := info_parts Try.infoSlot
  obtain ⟨a, c, hva⟩ := hv.len
  obtain ⟨n, hn⟩ : ∃ n, n = l.length := ⟨_, rfl⟩
  rw [← hn] at hva
  obtain ⟨am, cm, hua, hcm⟩ := hu.parts
  obtain ⟨q, hq⟩ : ∃ q, q = m.length := ⟨_, rfl⟩
  rw [← hq] at hua hm
  have HV : Hid (Sls w v l) := hv
  have HU : Hid (Sls w u m) := hu
  have HL : Hid (l.length ≤ 9223372036854775807) := hlen
  have HN : Hid (n = l.length) := hn
  have HQ : Hid (q = m.length) := hq
  have HCM : Hid (∀ k, k < m.length → ∃ b off, am = some ⟨b, off, none⟩ ∧ b < w.heap.size ∧ At7 w b (off + k * 7) (m[k]?.getD Sk.zero)) := hcm
  clear hv hn hlen hu hq hcm
  subst hva hua
  go_enter Try.func5, Try.ntmps5
  go_wp2_with fail
  refine (bufferBegun_any _).mono ?_
  rintro e w1 ⟨rfl, hb1⟩
  have K1 : Hid (Blk w1 w.heap.size #[.int .i64 next, .slice a n c] 31) := Blk.below (Blk.new w _ _) hb1 (by simp)
  have B1 : Hid (Below w.heap.size w w1) := ((Below.refl _ w).alloc (Nat.le_refl _) _).trans (hb1.mono (by simp))
  clear hb1
  obtain ⟨d0, d1⟩ := Blk.two K1.out
  go_wp2_with fail
  refine (bufCheck_any next (.slice a n c) l _ (HV.out.below B1.out) HL.out).mono ?_
  rintro e w2 ⟨rfl, hb2⟩
  have K2 : Hid (Blk w2 w.heap.size #[.int .i64 next, .slice a n c] 31) := Blk.below K1.out hb2 (Blk.lt K1.out)
  have B2 : Hid (Below w.heap.size w w2) := B1.out.trans (hb2.mono B1.out.size)
  obtain ⟨V, hV⟩ : ∃ V, V = pchk next l := ⟨_, rfl⟩
  rw [← hV]
  have HVV : Hid (V = pchk next l) := hV
  clear hb2 d0 d1 K1 B1 hV
  obtain ⟨d0, d1⟩ := Blk.two K2.out
  have lt2 := Blk.lt K2.out
  by_cases hV0 : ¬ V = 0
  · go_wp2
    go_ret
    exact ⟨rfl, B2.out⟩
  replace hV0 : V = 0 := Decidable.not_not.1 hV0
  have HR : Hid (Right next l) := (pchk_right next l).1 (HVV.out.symm.trans hV0)
  subst hV0
  have hn4 : n ≤ 4 := by rw [HN.out]; exact HR.out.2.1
  have hnb : 0 ≤ next ∧ next ≤ 1000000001 := by rcases HR.out.1 with ⟨h, _⟩ | h <;> omega
  -- the two appends
  have A1 := run_append_any (P := Try.prog) (w2.alloc (.cells #[] 35)) w2.heap.size 29 29 35 i0 _ 7 48 Try.underlying29 hi hz0 hz1 hz2 rfl (by decide) (.slice (some ⟨w2.heap.size, 0, none⟩) 0 0) 0 [] (World.ownsRow_lit (base := w2.heap.size) (e := 35) (size := 7) w2 #[] 0 (Nat.le_refl _) (by unfold maxLen; omega) rfl) n (skCells l) (.slice a n c) (by
      have := (HV.out.below B2.out).alloc (.cells #[] 35)
      unfold Sls at this
      rw [← HN.out] at this
      exact this) (sk_one l) (by unfold maxLen; omega) (by omega) (by simp)
  obtain ⟨v3, w3, run3, own3, gr3, _⟩ := A1
  rw [Nat.zero_add, List.nil_append] at own3
  have hb3 : Below w2.heap.size w2 w3 := ((Below.refl _ w2).alloc (Nat.le_refl _) _).grown gr3 (by simp) (fun j hj => by simp [Value.ownBlock] at hj; omega)
  have B3 : Hid (Below w.heap.size w w3) := B2.out.trans (hb3.mono B2.out.size)
  have A2 := run_append_any (P := Try.prog) w3 w2.heap.size 29 29 35 i0 _ 7 48 Try.underlying29 hi hz0 hz1 hz2 rfl (by decide) v3 n (skCells l) own3 q (skCells m) (.slice am q cm) (by
      have := HU.out.below B3.out
      unfold Sls at this
      rw [← HQ.out] at this
      exact this) (sk_one m) (by unfold maxLen; omega) (by omega) hb3.size
  obtain ⟨v4, w4, run4, own4, gr4, _⟩ := A2
  have hb4 : Below w2.heap.size w2 w4 := hb3.grown gr4 hb3.size (fun j hj => (own3.lt j hj).1)
  obtain ⟨C, hC⟩ : ∃ C, C = l ++ m := ⟨_, rfl⟩
  have HC : Hid (C = l ++ m) := hC
  have hCl : C.length = n + q := by rw [hC, List.length_append, HN.out, HQ.out]
  have S4 : Hid (Sls w4 v4 C) := by
    refine Sls.of_owns (base := w2.heap.size) ?_
    rw [hCl, hC, skCells_append]; exact own4
  obtain ⟨a4, c4, e4⟩ := S4.out.len
  rw [hCl] at e4
  have HCL : Hid (C.length = n + q) := hCl
  have K4 : Hid (Blk w4 w.heap.size #[.int .i64 next, .slice a n c] 31) := Blk.below K2.out hb4 lt2
  have B4 : Hid (Below w.heap.size w w4) := B2.out.trans (hb4.mono B2.out.size)
  have HSUB : Hid (∀ y ∈ l, y ∈ C) := fun y hy => by rw [hC]; simp [hy]
  have HSUBM : Hid (∀ y ∈ m, y ∈ C) := fun y hy => by rw [hC]; simp [hy]
  obtain ⟨e0, e1⟩ := Blk.two K4.out
  have N4 : Hid (∀ g, v4.ownBlock = some g → ¬ g = w.heap.size) := fun g hg => by have := (own4.lt g hg).1; omega
  clear hb3 hb4 own3 own4 gr3 gr4 hC hCl
  subst e4
  go_wp2_with (at_builtin; first | (refine wpList_append_run rfl (.tmp 19) (.tmp 21) 29 29 rfl _ _ rfl rfl run3 ?_) | (refine wpList_append_run rfl (.tmp 22) (.tmp 23) 29 29 rfl _ _ rfl rfl run4 ?_))
  clear run3 run4 d0 d1 e0 e1
  have hne4 : Hid (∀ g, (Value.slice a4 (n + q) c4).ownBlock = some g → ¬ g = w.heap.size) := N4
  have hnea : Hid (0 < l.length → ∀ g, (Value.slice a n c).ownBlock = some g → ¬ g = w.heap.size) := fun h0 g hg => by have := HV.out.blk h0 g hg; omega
  go_loopw [6, 7] (fun s6 s7 wr => ∃ (k : Nat) (last nx : Int) (a' : Option Addr) (c' lh : Nat) (h : List Sk), k ≤ q + 1 ∧ s7 = .int .i64 k ∧ s6 = .int .i64 last ∧ Hid (last < nx ∧ -1 ≤ last) ∧ Hid (lh = h.length) ∧
      Hid (Blk wr w.heap.size #[.int .i64 nx, .slice a' lh c'] 31) ∧ Hid (Sls wr (.slice a' lh c') h) ∧ Hid (Right nx h) ∧ Hid (∀ y ∈ h, y ∈ C) ∧ Hid (k = q + 1 → h = []) ∧ Hid (Sls wr (.slice a4 (n + q) c4) C) ∧ Hid (Below w.heap.size w wr))
    (fun _ i _ => q + 2 - (intOf i).toNat)
  case atStart =>
    exact ⟨0, next - 1, next, a, c, n, l, by omega, rfl, by go_num, ⟨by omega, by omega⟩, HN.out, K4.out, HV.out.below B4.out, HR.out, HSUB.out, (show 0 = q + 1 → _ from fun h => by omega), S4.out, B4.out⟩
  case round =>
    obtain ⟨k, last, nx, a', c', lh, h, hk, rfl, rfl, HLA, HLH, KB, SH, HRI, HSB, HEN, SC, BW⟩ := hrel
    obtain ⟨d0, d1⟩ := Blk.two KB.out
    have ltb := Blk.lt KB.out
    by_cases hlt : k ≤ q
    · have hlti : (k : Int) ≤ (q : Int) := by omega
      go_upto_if 37 with fail
      obtain ⟨Z, hZ⟩ : ∃ Z, Z = wr.heap.size := ⟨_, rfl⟩
      go_cut [9, 10] (fun s9 s10 wc => ∃ (E n' : Int) (h' o : List Sk) (ah ao : Option Addr) (ch co lh' lo : Nat), s9 = .slice ao lo co ∧ s10 = .int .i64 E ∧ Hid (lh' = h'.length) ∧ Hid (lo = o.length) ∧ Hid (Blk wc wr.heap.size #[.int .i64 n', .slice ah lh' ch] 31) ∧
          Hid (Sls wc (.slice ah lh' ch) h') ∧ Hid (Sls wc (.slice ao lo co) o) ∧ Hid (∀ g, (Value.slice ah lh' ch).ownBlock = some g → wr.heap.size ≤ g) ∧ Hid (Below wr.heap.size wr wc) ∧
          Hid (E = 0 → Went C nx n' h' o ∧ (k = q → h' = []) ∧ o.length ≤ 1000) ∧ Hid (¬ E = 0 → k < q ∧ E = (m[k]?.getD Sk.zero).chk))
      case first =>
        have kz := Blk.new wr #[.int .i64 0, .slice none 0 0] 31
        obtain ⟨z0, z1⟩ := kz.two
        by_cases hkq : k < q
        · obtain ⟨b, off, hao, hbb, hat⟩ := HCM.out k (by rw [← HQ.out]; exact hkq)
          subst hao
          have bA : Below w.heap.size w (wr.alloc (.cells #[.int .i64 0, .slice none 0 0] 31)) := BW.out.alloc BW.out.size _
          obtain ⟨c0, c1, c2, c3, c4', c5, c6⟩ := hat.below bA hbb
          obtain ⟨x, hx⟩ : ∃ x, x = m[k]?.getD Sk.zero := ⟨_, rfl⟩
          rw [← hx] at c0 c1 c2 c3 c4' c5 c6
          have HX : Hid (x = m[k]?.getD Sk.zero) := hx
          have HXC : Hid (x ∈ C) := HSUBM.out x (by rw [hx, List.getElem?_eq_getElem (by rw [← HQ.out]; exact hkq)]; exact List.getElem_mem _)
          have hkqi : (k : Int) < (q : Int) := by omega
          have HPU : Hid (∀ w' : World, Sls w' (.slice a' lh c') h → Calls Try.prog 13 #[.agg #[.int .i64 nx, .slice a' lh c'], .agg #[.int .i64 x.n, .int .i64 x.p.seq, .int .i64 x.p.time, .bool x.p.f, .bool x.p.e, .bool x.p.k, .string x.p.t]] w' fun e w'' => ∃ ah ch ao co, e = .returned (.tuple #[.agg #[.int .i64 (putR nx h x).1, .slice ah (putR nx h x).2.1.length ch], .slice ao (putR nx h x).2.2.length co, .int .i64 x.chk]) ∧
              Fresh w'.heap.size w'' (.slice ah (putR nx h x).2.1.length ch) (putR nx h x).2.1 ∧ Fresh w'.heap.size w'' (.slice ao (putR nx h x).2.2.length co) (putR nx h x).2.2 ∧ Below w'.heap.size w' w'') := fun w' hs => by
            have hE : putE nx h x = x.chk := by unfold putE; rw [if_pos ((pchk_right nx h).2 HRI.out)]
            refine (bufPut_any nx (.slice a' lh c') h x w' hs (by have := HRI.out.2.1; omega)).mono ?_
            rintro e w'' ⟨hv', ov', rfl, f1, f2, hb⟩
            obtain ⟨ah, ch, e1⟩ := f1.1.len
            obtain ⟨ao, co, e2⟩ := f2.1.len
            subst e1 e2
            exact ⟨ah, ch, ao, co, by rw [hE], f1, f2, hb⟩
          obtain ⟨R, hR⟩ : ∃ R, R = putR nx h x := ⟨_, rfl⟩
          rw [← hR] at HPU
          obtain ⟨E, hE⟩ : ∃ E, E = x.chk := ⟨_, rfl⟩
          rw [← hE] at HPU
          have HRES : Hid ((E = 0 → Went C nx R.1 R.2.1 R.2.2 ∧ (k = q → R.2.1 = []) ∧ R.2.2.length ≤ 1000) ∧ (¬ E = 0 → k < q ∧ E = (m[k]?.getD Sk.zero).chk)) := by
            refine ⟨fun h0 => ?_, fun _ => ⟨hkq, by rw [hE, hx]⟩⟩
            have e : R = putF nx h x := by
              rw [hR]; unfold putR
              rw [if_pos (by unfold putE; rw [if_pos ((pchk_right nx h).2 HRI.out), ← hE]; exact h0)]
            rw [e]
            exact ⟨went_put HRI.out HSB.out (hE.symm.trans h0) HXC.out, fun h => by omega, (by
              have := put_len (x := x) HRI.out; omega)⟩
          obtain ⟨p1, hp1⟩ : ∃ p1, p1 = R.2.1.length := ⟨_, rfl⟩
          obtain ⟨p2, hp2⟩ : ∃ p2, p2 = R.2.2.length := ⟨_, rfl⟩
          obtain ⟨r1, hr1⟩ : ∃ r1, r1 = R.1 := ⟨_, rfl⟩
          rw [← hp1, ← hp2, ← hr1] at HPU
          rw [← hr1] at HRES
          have HP1 : Hid (p1 = R.2.1.length) := hp1
          have HP2 : Hid (p2 = R.2.2.length) := hp2
          have HPR : Hid (r1 = R.1) := hr1
          have AFT : Hid (∀ (U U2 : World) (ah ao : Option Addr) (ch co : Nat), Below wr.heap.size wr U → Blk U wr.heap.size #[.int .i64 0, .slice none 0 0] 31 → Below U.heap.size U U2 → Fresh U.heap.size U2 (.slice ah p1 ch) R.2.1 → Fresh U.heap.size U2 (.slice ao p2 co) R.2.2 → wr.heap.size + 1 ≤ U.heap.size →
              ∀ U3, U3 = (U2.setCell ⟨wr.heap.size, 0, none⟩ (.int .i64 r1)).setCell ⟨wr.heap.size, 1, none⟩ (.slice ah p1 ch) →
              Blk U3 wr.heap.size #[.int .i64 r1, .slice ah p1 ch] 31 ∧ Sls U3 (.slice ah p1 ch) R.2.1 ∧ Sls U3 (.slice ao p2 co) R.2.2 ∧ (∀ g, (Value.slice ah p1 ch).ownBlock = some g → wr.heap.size ≤ g) ∧ Below wr.heap.size wr U3) := by
            intro U U2 ah ao ch co h1 h2 h3 h4 h5 h6 U3 h7
            have h8 := h2.below h3 h2.lt
            subst h7
            refine ⟨(h8.set 0 _).set 1 _, ((h4.set (by simp; omega) _).set (by simp; omega) _).1, ((h5.set (by simp; omega) _).set (by simp; omega) _).1, fun g hg => by have := h4.2 g hg; omega, ?_⟩
            exact ((h1.trans (h3.mono h1.size)).setCell (by simp) _).setCell (by simp) _
          have KZ : Hid (Blk (wr.alloc (.cells #[.int .i64 0, .slice none 0 0] 31)) wr.heap.size #[.int .i64 0, .slice none 0 0] 31) := kz
          clear hx hat hR hE hp1 hp2 hr1 bA kz
          go_wp2_with fail
          go_region_with (go_at_call 13; refine (HPU.out _ (SH.out.below (by first | exact ((Below.refl _ wr).alloc (Nat.le_refl _) _).drew))).mono ?_; rintro e w5 ⟨ah, ch, ao, co, rfl, f1, f2, hb5⟩; have k5 := Blk.below KZ.out.drew hb5 (by simp [World.drew]); obtain ⟨y0, y1⟩ := k5.two; have yf := k5.free; have A5 : Hid _ := AFT.out _ w5 ah ao ch co ((Below.refl _ wr).alloc (Nat.le_refl _) _).drew KZ.out.drew hb5 f1 f2 (by simp [World.drew]); clear f1 f2 hb5 k5)
          all_goals
            go_wp2_with fail
            go_meet
            case rel =>
              obtain ⟨t1, t2, t3, t4, t5⟩ := A5.out _ rfl
              exact ⟨E, r1, R.2.1, R.2.2, ah, ao, ch, co, p1, p2, rfl, rfl, HP1.out, HP2.out, t1, t2, t3, t4, t5, HRES.out.1, HRES.out.2⟩
        · have hkqi : ¬ (k : Int) < (q : Int) := by omega
          have HFU : Hid (∀ w' : World, Sls w' (.slice a' lh c') h → Calls Try.prog 14 #[.agg #[.int .i64 nx, .slice a' lh c']] w' fun e w'' => ∃ ah ch ao co, e = .returned (.tuple #[.agg #[.int .i64 (relF 0 nx h []).1, .slice ah (relF 0 nx h []).2.1.length ch], .slice ao (relF 0 nx h []).2.2.length co, .int .i64 0]) ∧
              Fresh w'.heap.size w'' (.slice ah (relF 0 nx h []).2.1.length ch) (relF 0 nx h []).2.1 ∧ Fresh w'.heap.size w'' (.slice ao (relF 0 nx h []).2.2.length co) (relF 0 nx h []).2.2 ∧ Below w'.heap.size w' w'') := fun w' hs => by
            refine (bufFlush_ok nx (.slice a' lh c') h w' hs HRI.out).mono ?_
            rintro e w'' ⟨hv', ov', rfl, f1, f2, hb⟩
            obtain ⟨ah, ch, e1⟩ := f1.1.len
            obtain ⟨ao, co, e2⟩ := f2.1.len
            subst e1 e2
            exact ⟨ah, ch, ao, co, rfl, f1, f2, hb⟩
          obtain ⟨R, hR⟩ : ∃ R, R = relF 0 nx h [] := ⟨_, rfl⟩
          rw [← hR] at HFU
          have HRES : Hid (Went C nx R.1 R.2.1 R.2.2 ∧ (k = q → R.2.1 = []) ∧ R.2.2.length ≤ 1000) := by
            rw [hR]
            obtain ⟨g1, g2⟩ := went_flush HRI.out HSB.out
            exact ⟨g1, fun _ => g2, by have h1 := relF_lens' 0 h nx []; have h2 := HRI.out.2.1; rw [List.length_nil] at h1; omega⟩
          obtain ⟨p1, hp1⟩ : ∃ p1, p1 = R.2.1.length := ⟨_, rfl⟩
          obtain ⟨p2, hp2⟩ : ∃ p2, p2 = R.2.2.length := ⟨_, rfl⟩
          obtain ⟨r1, hr1⟩ : ∃ r1, r1 = R.1 := ⟨_, rfl⟩
          rw [← hp1, ← hp2, ← hr1] at HFU
          have HP1 : Hid (p1 = R.2.1.length) := hp1
          have HP2 : Hid (p2 = R.2.2.length) := hp2
          have HPR : Hid (r1 = R.1) := hr1
          rw [← hr1] at HRES
          have KZ : Hid (Blk (wr.alloc (.cells #[.int .i64 0, .slice none 0 0] 31)) wr.heap.size #[.int .i64 0, .slice none 0 0] 31) := kz
          clear hR hp1 hp2 hr1 kz
          go_wp2_with fail
          refine (HFU.out _ (SH.out.alloc _)).mono ?_
          rintro e w5 ⟨ah, ch, ao, co, rfl, f1, f2, hb5⟩
          have k5 := KZ.out.below hb5 KZ.out.lt
          obtain ⟨y0, y1⟩ := k5.two
          have yf := k5.free
          have A5 : Hid (∀ U3, U3 = (w5.setCell ⟨wr.heap.size, 0, none⟩ (.int .i64 r1)).setCell ⟨wr.heap.size, 1, none⟩ (.slice ah p1 ch) →
              Blk U3 wr.heap.size #[.int .i64 r1, .slice ah p1 ch] 31 ∧ Sls U3 (.slice ah p1 ch) R.2.1 ∧ Sls U3 (.slice ao p2 co) R.2.2 ∧ (∀ g, (Value.slice ah p1 ch).ownBlock = some g → wr.heap.size ≤ g) ∧ Below wr.heap.size wr U3) := by
            intro U3 h7
            subst h7
            refine ⟨(k5.set 0 _).set 1 _, ((f1.set (by simp) _).set (by simp) _).1, ((f2.set (by simp) _).set (by simp) _).1, fun g hg => by have := f1.2 g hg; simp at this; omega, ?_⟩
            exact ((((Below.refl _ wr).alloc (Nat.le_refl _) _).trans (hb5.mono (by simp))).setCell (by simp) _).setCell (by simp) _
          clear f1 f2 hb5 k5
          go_wp2_with fail
          go_meet
          case rel =>
            obtain ⟨t1, t2, t3, t4, t5⟩ := A5.out _ rfl
            exact ⟨0, r1, R.2.1, R.2.2, ah, ao, ch, co, p1, p2, rfl, rfl, HP1.out, HP2.out, t1, t2, t3, t4, t5, (show (0 : Int) = 0 → _ from fun _ => HRES.out), (show ¬ (0 : Int) = 0 → _ from fun h => absurd rfl h)⟩
      case rest =>
        obtain ⟨E, n', h', o, ah, ao, ch, co, lh', lo, rfl, rfl, HLH', HLO, KX, SX, SO, NX, BC, HW, HE⟩ := hcut
        rw [← hZ] at KX NX BC
        have BWC : Hid (Below w.heap.size w wc) := BW.out.trans (BC.out.mono (by rw [hZ]; exact BW.out.size))
        have BRC : Hid (Below wr.heap.size wr wc) := by rw [← hZ]; exact BC.out
        have KB' : Hid (Blk wc w.heap.size #[.int .i64 nx, .slice a' lh c'] 31) := Blk.below KB.out BRC.out ltb
        have SC' : Hid (Sls wc (.slice a4 (n + q) c4) C) := SC.out.below BRC.out
        have hbZ : w.heap.size < Z := by rw [hZ]; exact ltb
        rw [← hZ]
        clear hZ BC BRC d0 d1 KB SC BW SH
        by_cases hE0 : ¬ E = 0
        · obtain ⟨hkq, hEE⟩ := HE.out hE0
          obtain ⟨b, off, hao, hbb, hat⟩ := HCM.out k (by rw [← HQ.out]; exact hkq)
          subst hao
          obtain ⟨c0, c1, c2, c3, c4', c5, c6⟩ := hat.below BWC.out hbb
          obtain ⟨x, hx⟩ : ∃ x, x = m[k]?.getD Sk.zero := ⟨_, rfl⟩
          rw [← hx] at c0 c1 c2 c3 c4' c5 c6 hEE
          have hkqi : (k : Int) < (q : Int) := by omega
          have hck : ∀ w : World, Calls Try.prog 16 #[.agg #[.int .i64 x.n, .int .i64 x.p.seq, .int .i64 x.p.time, .bool x.p.f, .bool x.p.e, .bool x.p.k, .string x.p.t]] w fun e w' => e = .returned (.int .i64 E) ∧ Below w.heap.size w w' := fun w => by rw [hEE]; exact refSlot_any x w
          clear hx hat hEE
          go_wp2_with fail
          refine (hck _).mono ?_
          rintro e w5 ⟨rfl, hb5⟩
          have B5 : Hid (Below w.heap.size w w5) := BWC.out.trans (hb5.mono BWC.out.size)
          clear hb5
          go_wp2
          go_ret
          exact ⟨rfl, B5.out⟩
        replace hE0 : E = 0 := Decidable.not_not.1 hE0
        obtain ⟨WW, hend, hlo⟩ := HW.out hE0
        have HWW : Hid (Went C nx n' h' o) := WW
        have HND : Hid (k = q → h' = []) := hend
        have hlo' : lo ≤ 1000 := by rw [HLO.out]; exact hlo
        subst hE0
        clear WW hend hlo HW HE
        obtain ⟨x0, x1⟩ := Blk.two KX.out
        have ltx := Blk.lt KX.out
        obtain ⟨ao2, co2, eo, hco⟩ := SO.out.parts
        obtain ⟨ac2, cc2, ec, hcc⟩ := SC'.out.parts
        rw [← HLO.out] at eo hco
        rw [HCL.out] at ec hcc
        injection eo with eo1 _ eo3
        injection ec with ec1 _ ec3
        subst eo1 ec1 eo3 ec3
        have HCO : Hid (∀ k, k < lo → ∃ b off, ao = some ⟨b, off, none⟩ ∧ b < wc.heap.size ∧ At7 wc b (off + k * 7) (o[k]?.getD Sk.zero)) := hco
        have HCC : Hid (∀ k, k < n + q → ∃ b off, a4 = some ⟨b, off, none⟩ ∧ b < wc.heap.size ∧ At7 wc b (off + k * 7) (C[k]?.getD Sk.zero)) := hcc
        clear hco hcc
        have hnq : n + q ≤ 9223372036854775807 := by omega
        have hx0 := x0
        go_wp2_with fail
        go_loopw [6, 11] (fun s6 s11 wr => ∃ (j : Nat) (la : Int), j ≤ lo ∧ s11 = .int .i64 j ∧ s6 = .int .i64 la ∧ Hid (la = if j = 0 then last else (o[j - 1]?.getD Sk.zero).n) ∧ Hid (Below wc.heap.size wc wr))
          (fun _ i _ => lo - (intOf i).toNat)
        case atStart => exact ⟨0, last, Nat.zero_le _, rfl, rfl, rfl, Below.refl _ _⟩
        case round =>
          obtain ⟨j, la, hj, rfl, rfl, HLJ, HBJ⟩ := hrel
          by_cases hjl : j < lo
          · obtain ⟨b, off, hao, hbb, hat⟩ := HCO.out j hjl
            subst hao
            obtain ⟨y, hy⟩ : ∃ y, y = o[j]?.getD Sk.zero := ⟨_, rfl⟩
            rw [← hy] at hat
            have HAT : Hid (At7 wc b (off + j * 7) y) := hat
            have hjo : j < o.length := by rw [← HLO.out]; exact hjl
            have HYO : Hid (y ∈ o) := by show y ∈ o; rw [hy, List.getElem?_eq_getElem hjo]; exact List.getElem_mem _
            have HYL : Hid (la < y.n ∧ y.n < n') := by
              refine ⟨?_, (HWW.out.outs y HYO.out).2.2⟩
              have h1 := upB_step HWW.out.up j hjo
              rw [← hy] at h1
              have h2 := HLJ.out
              have h3 := HLA.out.1
              by_cases e : j = 0
              · rw [if_pos e] at h1 h2; omega
              · rw [if_neg e] at h1 h2; omega
            have HYD : Hid (y = o[j]?.getD Sk.zero) := hy
            have hjli : (j : Int) < (lo : Int) := by omega
            clear hy hat
            go_wp2_with fail
            go_loopw [12, 13] (fun s12 s13 wr => ∃ (t : Bool) (i3 : Nat), i3 ≤ n + q ∧ s12 = .bool t ∧ s13 = .int .i64 i3 ∧ Hid (t = (C.take i3).any fun z => Sk.eqB z y) ∧ Hid (Below wc.heap.size wc wr))
              (fun _ i _ => n + q - (intOf i).toNat)
            case atStart => exact ⟨false, 0, Nat.zero_le _, rfl, rfl, (show false = _ from rfl), HBJ.out⟩
            case round =>
              obtain ⟨t, i3, hi3, rfl, rfl, HT, HB3⟩ := hrel
              obtain ⟨y0, y1, y2, y3, y4, y5, y6⟩ := HAT.out.below HB3.out hbb
              by_cases hl3 : i3 < n + q
              · obtain ⟨b2, off2, hao2, hbb2, hat2⟩ := HCC.out i3 hl3
                subst hao2
                obtain ⟨z0, z1, z2, z3, z4, z5, z6⟩ := hat2.below HB3.out hbb2
                obtain ⟨z, hz⟩ : ∃ z, z = C[i3]?.getD Sk.zero := ⟨_, rfl⟩
                rw [← hz] at z0 z1 z2 z3 z4 z5 z6
                obtain ⟨te, hte⟩ : ∃ te, te = Sk.eqB z y := ⟨_, rfl⟩
                have heq := eql_slot z y
                rw [← hte] at heq
                have HNX : Hid ((t || te) = (C.take (i3 + 1)).any fun z => Sk.eqB z y) := by
                  show _ = _
                  rw [take_one (by rw [HCL.out]; exact hl3) Sk.zero, List.any_append, ← HT.out, ← hz]
                  simp [hte]
                simp only [Sk.val] at heq
                have hl3i : (i3 : Int) < ((n + q : Nat) : Int) := by omega
                clear hz hte hat2
                cases t
                · go_wp2_with fail
                  go_quiet (fail)
                  go_wp2_with fail
                  go_roundw
                  case rel => exact ⟨te, i3 + 1, by omega, rfl, by go_num, (show te = _ by have := HNX.out; simpa using this), below_drewN HB3.out _⟩
                  case measure => simp [intOf]; omega
                · clear heq z0 z1 z2 z3 z4 z5 z6
                  go_wp2_with fail
                  go_quiet (fail)
                  go_wp2_with fail
                  go_roundw
                  case rel => exact ⟨true, i3 + 1, by omega, rfl, by go_num, (show true = _ by have := HNX.out; simpa using this), below_drewN HB3.out _⟩
                  case measure => simp [intOf]; omega
              · have hi3' : i3 = n + q := by omega
                have ht : t = true := by
                  rw [HT.out, hi3', ← HCL.out, List.take_length, List.any_eq_true]
                  exact ⟨y, (HWW.out.outs y HYO.out).1, (Sk.eqB_iff y y).2 rfl⟩
                have hd1 : decide (y.n ≤ la) = false := decide_eq_false (by have := HYL.out.1; omega)
                have hd2 : decide (n' ≤ y.n) = false := decide_eq_false (by have := HYL.out.2; omega)
                have hd3 : ¬ (i3 : Int) < ((n + q : Nat) : Int) := by omega
                obtain ⟨x0', x1'⟩ := Blk.two (Blk.below KX.out HB3.out ltx)
                subst ht
                clear hi3'
                go_wp2_with fail
                go_quiet (fail)
                go_wp2_with fail
                go_roundw
                case rel => exact ⟨j + 1, y.n, by omega, by go_num, rfl, (show y.n = _ by rw [if_neg (by omega), show j + 1 - 1 = j by omega, ← HYD.out]), below_drewN HB3.out _⟩
                case measure => simp [intOf]; omega
          · have hjlo : j = lo := by omega
            have hjli : ¬ (j : Int) < (lo : Int) := by omega
            have HLA2 : Hid (la < n' ∧ -1 ≤ la) := by
              have h1 := HLJ.out
              have h2 := HLA.out
              have h3 := HWW.out.le
              have h4 : 0 ≤ nx := by rcases HRI.out.1 with ⟨h, _⟩ | h <;> omega
              by_cases e : j = 0
              · rw [if_pos e] at h1; exact ⟨by omega, by omega⟩
              · rw [if_neg e] at h1
                have hlt' : j - 1 < o.length := by rw [← HLO.out]; omega
                rw [List.getElem?_eq_getElem hlt', Option.getD_some] at h1
                have h5 := HWW.out.outs _ (List.getElem_mem hlt')
                exact ⟨by omega, by omega⟩
            obtain ⟨x0', x1'⟩ := Blk.two (Blk.below KX.out HBJ.out ltx)
            have hck := bufCheck_any n' (.slice ah lh' ch) h' wr (SX.out.below HBJ.out) (by have := HWW.out.right.2.1; omega)
            rw [(pchk_right n' h').2 HWW.out.right] at hck
            clear hjlo
            go_wp2_with fail
            refine hck.mono ?_
            rintro e w6 ⟨rfl, hb6⟩
            have B6 : Hid (Below wc.heap.size wc w6) := Below.on HBJ.out hb6
            clear hb6 hck x0' x1'
            have kb6 := Blk.below KB'.out B6.out KB'.out.lt
            obtain ⟨x0', x1'⟩ := Blk.two (Blk.below KX.out B6.out ltx)
            obtain ⟨b0', b1'⟩ := kb6.two
            have bf' := kb6.free
            have hd1 : decide (n' < nx) = false := decide_eq_false (by have := HWW.out.le; omega)
            have FIN : Hid (∀ U : World, Hid (U = (w6.setCell ⟨w.heap.size, 0, none⟩ (.int .i64 n')).setCell ⟨w.heap.size, 1, none⟩ (.slice ah lh' ch)) →
                Blk U w.heap.size #[.int .i64 n', .slice ah lh' ch] 31 ∧ Sls U (.slice ah lh' ch) h' ∧ Sls U (.slice a4 (n + q) c4) C ∧ Below w.heap.size w U) := fun U hU => by
              have hblk : ∀ g, ¬ g = w.heap.size → U.heap[g]? = w6.heap[g]? := fun g hg => by rw [hU.out, Below.heap_setCell _ _ _ _ (by exact hg), Below.heap_setCell _ _ _ _ (by exact hg)]
              have hsz : U.heap.size = w6.heap.size := by rw [hU.out]; simp
              refine ⟨by rw [hU.out]; exact (kb6.set 0 _).set 1 _, (SX.out.below B6.out).same (by omega) (fun _ g hg => hblk g (by have := NX.out g hg; omega)), (SC'.out.below B6.out).same (by omega) (fun _ g hg => hblk g (hne4.out g hg)), ?_⟩
              rw [hU.out]
              exact ((BWC.out.trans (B6.out.mono BWC.out.size)).setCell (by simp) _).setCell (by simp) _
            clear kb6
            go_wp2_with fail
            go_roundw
            case rel =>
              obtain ⟨t1, t2, t3, t4⟩ := FIN.out _ rfl
              exact ⟨k + 1, la, n', ah, ch, lh', h', by omega, by go_num, rfl, HLA2.out, HLH'.out, t1, t2, HWW.out.right, HWW.out.sub, (show k + 1 = q + 1 → _ from fun h => HND.out (by omega)), t3, t4⟩
            case measure => simp [intOf]; omega
    · have hkl : k = q + 1 := by omega
      have hh : h = [] := HEN.out hkl
      have hl0 : lh = 0 := by rw [HLH.out, hh]; rfl
      have hlti : ¬ ((q : Int) + 1) ≤ (q : Int) := by omega
      subst hkl hl0
      go_wp2
      go_ret
      exact ⟨rfl, BW.out⟩

end Go.Proofs.Ytanefofheeecdab
