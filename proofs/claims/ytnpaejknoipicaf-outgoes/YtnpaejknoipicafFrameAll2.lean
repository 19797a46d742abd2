/-
  Contract: frame.All.
-/
import Derived.Test.YtnpaejknoipicafFrameAll
namespace Go.Proofs.Ytnpaejknoipicaf
open Go.RowKit

def framesE (l : List Sk) : Int := if 100 < l.length then 2 else chkAll l
/-- the frames that All answers: none beside an errno -/
def framesR (l : List Sk) : List Fr := if framesE l = 0 then framesS l else []
theorem Outs.nil (base : Nat) (w : World) : Outs base w (.slice none 0 0) [] := ⟨[], rfl, World.ownsRow_nil _ _ _ _, fun _ hp => absurd hp List.not_mem_nil⟩

set_option maxHeartbeats 2000000 in
set_option maxRecDepth 100000 in
theorem frameAll_any (v : Value) (l : List Sk) (w : World) (hv : Sls w v l) (hlen : l.length ≤ 9223372036854775807) :
    Calls Try.prog 16 #[v] w fun e w' => ∃ u, e = .returned (.tuple #[u, .int .i64 (framesE l)]) ∧ Outs w.heap.size w' u (framesR l) ∧ Below w.heap.size w w' := by
  obtain ⟨i0, hi, hz0, hz1, hz2⟩ := info_parts Try.infoFrm
  obtain ⟨ao, c, hva, hc⟩ := hv.parts
  obtain ⟨n, hn⟩ : ∃ n, n = l.length := ⟨_, rfl⟩
  have HN : Hid (n = l.length) := hn
  have HC : Hid (∀ k, k < l.length → ∃ b off, ao = some ⟨b, off, none⟩ ∧ b < w.heap.size ∧ At7 w b (off + k * 7) (l[k]?.getD Sk.zero)) := hc
  rw [← hn] at hva hlen
  obtain ⟨E, hE⟩ : ∃ E, E = framesE l := ⟨_, rfl⟩
  have HE : Hid (E = if 100 < n then 2 else chkAll l) := by show _ = _; rw [hE, hn]; rfl
  obtain ⟨R, hR⟩ : ∃ R, R = framesR l := ⟨_, rfl⟩
  have HR : Hid (R = if E = 0 then (upA l n).2 else []) := by show _ = _; rw [hR, hE, hn]; rfl
  rw [← hE, ← hR]
  clear hv hc hn hE hR
  subst hva
  by_cases h1 : 100 < n
  · have hE2 : E = 2 := by rw [HE.out, if_pos h1]
    have hR2 : R = [] := by rw [HR.out, hE2]; rfl
    rw [hE2, hR2]
    go_enter Try.func16, Try.ntmps16
    go_wp2
    exact bodyPost_ret (v := .tuple #[.slice none 0 0, .int .i64 2]) (by simp [results, Try.results16, go_sem]) rfl ⟨_, rfl, Outs.nil _ _, Below.refl _ _⟩
  have hl100 : n ≤ 100 := by omega
  have HE2 : Hid (E = chkAll l) := by show _ = _; rw [HE.out, if_neg h1]
  clear h1 HE
  go_enter Try.func16, Try.ntmps16
  go_wp2_with fail
  go_loopw [5, 16] (fun s6 i wr => ∃ (k : Nat) (u : Value), k ≤ n ∧ i = .int .i64 k ∧ s6 = u ∧ Hid (Outs w.heap.size wr u (upA l k).2) ∧ Hid (Make w.heap.size w.heap.size wr (upA l k).1) ∧ Hid ((upA l k).1.length ≤ 3) ∧ Hid ((upA l k).2.length ≤ k) ∧ Hid (∀ y ∈ (upA l k).1, y.chk = 0) ∧ Hid (chkAll (l.take k) = 0) ∧ Hid (Below w.heap.size w wr))
    (fun _ i _ => n - (intOf i).toNat)
  case atStart =>
    refine ⟨0, _, Nat.zero_le _, rfl, rfl, ?_, ⟨_, Blk.new w _ _, World.ownsRow_nil _ _ _ _⟩, (show _ ≤ _ from Nat.zero_le _), (show _ ≤ _ from Nat.le_refl _), (show ∀ y ∈ _, _ from fun y hy => absurd hy List.not_mem_nil), (show chkAll (l.take 0) = 0 from rfl), (Below.refl _ w).alloc (Nat.le_refl _) _⟩
    exact ⟨[], rfl, World.ownsRow_nil _ _ _ _, fun p hp => absurd hp List.not_mem_nil⟩
  case round =>
    obtain ⟨k, u, hk, rfl, rfl, HOut, HMk, H3, HLn, HCk, HCA, HB⟩ := hrel
    have BW : Hid (Below w.heap.size w wr) := HB.out
    by_cases hlt : k < n
    · obtain ⟨b, off, rfl, hbb, hat⟩ := HC.out k (by rw [← HN.out]; exact hlt)
      obtain ⟨c0, c1, c2, c3, c4, c5, c6⟩ := hat.below BW.out hbb
      obtain ⟨x, hx⟩ : ∃ x, x = l[k]?.getD Sk.zero := ⟨_, rfl⟩
      rw [← hx] at c0 c1 c2 c3 c4 c5 c6
      have HX : Hid (x = l[k]?.getD Sk.zero) := hx
      have hlti : (k : Int) < (n : Int) := by omega
      by_cases hx0 : x.chk = 0
      case neg =>
        have hE3 : E = x.chk := by rw [HE2.out, hx]; exact chkAll_take_no (by rw [← HN.out]; exact hlt) HCA.out (by rw [← hx]; exact hx0)
        have hR3 : R = [] := by rw [HR.out, hE3, if_neg hx0]
        have HSC : Hid (∀ w' : World, Calls Try.prog 32 #[.agg #[.int .i64 x.n, .int .i64 x.p.seq, .int .i64 x.p.time, .bool x.p.f, .bool x.p.e, .bool x.p.k, .string x.p.t]] w' fun e w'' => e = .returned (.int .i64 E) ∧ Below w'.heap.size w' w'') := fun w' => by rw [hE3]; exact slotCheck_any x w'
        have hE0 : ¬ E = 0 := by rw [hE3]; exact hx0
        have HR3 : Hid (R = []) := hR3
        clear hat hx hx0 hE3 hR3 HOut HMk
        go_wp2_with fail
        refine (HSC.out _).mono ?_
        rintro e w2 ⟨rfl, hb2⟩
        have B2 : Hid (Below w.heap.size w w2) := HB.out.trans ((((Below.refl _ wr).alloc (Nat.le_refl _) _).trans (hb2.mono (by simp))).mono HB.out.size)
        clear hb2 c0 c1 c2 c3 c4 c5 c6
        go_wp2
        exact bodyPost_ret (v := .tuple #[.slice none 0 0, .int .i64 E]) (by simp [results, Try.results16, go_sem]) rfl ⟨_, rfl, by rw [HR3.out]; exact Outs.nil _ _, B2.out⟩
      have HUP : Hid (upA l (k + 1) = stepA (upA l k) x) := by show _ = _; rw [hx]; exact upA_succ l k (by rw [← HN.out]; exact hlt)
      clear hat hx
      obtain ⟨O, F, hOF⟩ : ∃ O F, upA l k = (O, F) := ⟨_, _, rfl⟩
      rw [hOF] at HOut HMk H3 HLn HCk HUP
      obtain ⟨au, cu, eu⟩ := HOut.out.len
      obtain ⟨ov, kM, kO⟩ := HMk.out
      obtain ⟨m, hm⟩ : ∃ m, m = F.length := ⟨_, rfl⟩
      rw [show (O, F).2 = F from rfl, ← hm] at eu
      have HM : Hid (m = F.length) := hm
      have hmk : m ≤ 100 := by have h := HLn.out; change F.length ≤ k at h; omega
      clear hOF hm
      subst eu
      have hO3 : O.length ≤ 3 := H3.out
      have hOc : ∀ y ∈ O, y.chk = 0 := HCk.out
      have HO3 : Hid (O.length ≤ 3) := hO3
      have HOC : Hid (∀ y ∈ O, y.chk = 0) := hOc
      have HXC : Hid (x.chk = 0) := hx0
      have HOF : Hid (Outs w.heap.size wr (.slice au m cu) F) := HOut.out
      have HLN : Hid (F.length ≤ k) := HLn.out
      have KM : Hid (Blk wr w.heap.size #[ov] 74) := kM
      have KO : Hid (wr.ownsRow w.heap.size 41 7 ov O.length (skCells O)) := kO
      have HCo : Hid (∀ w' : World, Calls Try.prog 34 #[.agg #[.int .i64 x.n, .int .i64 x.p.seq, .int .i64 x.p.time, .bool x.p.f, .bool x.p.e, .bool x.p.k, .string x.p.t]] w' fun e w'' => e = .returned (.agg #[.int .i64 x.n, .int .i64 x.p.seq, .int .i64 x.p.time, .bool x.p.f, .bool x.p.e, .bool x.p.k, .string x.p.t]) ∧ Below w'.heap.size w' w'') := fun w' => slotCopy_any x w' (Sk.chk_short hx0)
      have HAd : Hid (∀ w' : World, Blk w' w.heap.size #[ov] 74 → w'.ownsRow w.heap.size 41 7 ov O.length (skCells O) →
          Calls Try.prog 33 #[.pointer (some ⟨w.heap.size, 0, none⟩), .agg #[.int .i64 x.n, .int .i64 x.p.seq, .int .i64 x.p.time, .bool x.p.f, .bool x.p.e, .bool x.p.k, .string x.p.t]] w' fun e w'' => ∃ pv, e = .returned (.tuple #[.agg #[.int .i64 (addT O x), .bool (addK O x), pv], .bool (addW O x)]) ∧ Strs w'' pv (addP O x) ∧ (∀ g, pv.ownBlock = some g → w.heap.size ≤ g ∧ ∃ cur, Blk w'' g cur 9) ∧ Make w.heap.size w.heap.size w'' (addO O x) ∧ Below w.heap.size w' w'' ∧ ∀ j, j < w'.heap.size → j ≠ w.heap.size → some j ≠ ov.ownBlock → w''.heap[j]? = w'.heap[j]?) := fun w' h1 h2 =>
        add_any w.heap.size w.heap.size O x w' ov h1 h2 (Nat.le_refl _) (fun y hy => by have := Sk.chk_zero (hOc y hy); omega) (by omega)
      have HSC : Hid (∀ w' : World, Calls Try.prog 32 #[.agg #[.int .i64 x.n, .int .i64 x.p.seq, .int .i64 x.p.time, .bool x.p.f, .bool x.p.e, .bool x.p.k, .string x.p.t]] w' fun e w'' => e = .returned (.int .i64 0) ∧ Below w'.heap.size w' w'') := fun w' => by rw [← hx0]; exact slotCheck_any x w'
      have HCA2 : Hid (chkAll (l.take (k + 1)) = 0) := by show _ = _; exact chkAll_take_ok (by rw [← HN.out]; exact hlt) HCA.out (by rw [← HX.out]; exact hx0)
      clear kM kO HOut HMk H3 HLn HCk hO3 hOc hx0
      obtain ⟨rT, hrT⟩ : ∃ rT, rT = addT O x := ⟨_, rfl⟩
      obtain ⟨rK, hrK⟩ : ∃ rK, rK = addK O x := ⟨_, rfl⟩
      obtain ⟨rW, hrW⟩ : ∃ rW, rW = addW O x := ⟨_, rfl⟩
      obtain ⟨rP, hrP⟩ : ∃ rP, rP = addP O x := ⟨_, rfl⟩
      rw [← hrT, ← hrK, ← hrW, ← hrP] at HAd
      have HST : Hid (stepA (O, F) x = (addO O x, if rW then F ++ [⟨rT, rK, rP⟩] else F)) := by show _ = _; rw [hrT, hrK, hrW, hrP]; rfl
      have HPL : Hid (rP.length ≤ 4) := by show _ ≤ _; rw [hrP]; exact addP_len O x HO3.out
      clear hrT hrK hrW hrP
      go_wp2_with fail
      refine (HSC.out _).mono ?_
      rintro e w1 ⟨rfl, hb1⟩
      have bA1 : Below wr.heap.size wr w1 := ((Below.refl _ wr).alloc (Nat.le_refl _) _).trans (hb1.mono (by simp))
      obtain ⟨y0, y1, y2, y3, y4, y5, y6⟩ := ((Blk.new wr #[.int .i64 x.n, .int .i64 x.p.seq, .int .i64 x.p.time, .bool x.p.f, .bool x.p.e, .bool x.p.k, .string x.p.t] 41).below hb1 (by simp)).seven
      have BA1 : Hid (Below wr.heap.size wr w1) := bA1
      clear bA1 hb1 c0 c1 c2 c3 c4 c5 c6
      go_wp2_with fail
      refine (HCo.out _).mono ?_
      rintro e w2 ⟨rfl, hb2⟩
      have bA : Below wr.heap.size wr w2 := BA1.out.trans (hb2.mono BA1.out.size)
      have kM2 : Hid (Blk w2 w.heap.size #[ov] 74) := KM.out.below bA KM.out.lt
      have kO2 : Hid (w2.ownsRow w.heap.size 41 7 ov O.length (skCells O)) := owns_below KO.out bA (Nat.le_refl _)
      have out2 : Hid (Outs w.heap.size w2 (.slice au m cu) F) := HOF.out.below bA
      have HB2 : Hid (Below w.heap.size w w2) := HB.out.trans (bA.mono HB.out.size)
      clear bA hb2 y0 y1 y2 y3 y4 y5 y6 KM KO HOF HCo BA1 HSC
      go_wp2_with fail
      refine (HAd.out _ kM2.out kO2.out).mono ?_
      rintro e w3 ⟨pv, rfl, hst3, hfr3, hmk3, hb3, oth3⟩
      have out3 : Hid (Outs w.heap.size w3 (.slice au m cu) F) := out2.out.same hb3.size
        (fun g cur hc => oth3 g hc.lt (fun e => Apart_type hc kM2.out (by decide) e) (fun e => by obtain ⟨_, cur2, h2⟩ := owns_blk kO2.out e.symm; exact Apart_type hc h2 (by decide) rfl))
        (fun g cur hc => oth3 g hc.lt (fun e => Apart_type hc kM2.out (by decide) e) (fun e => by obtain ⟨_, cur2, h2⟩ := owns_blk kO2.out e.symm; exact Apart_type hc h2 (by decide) rfl))
      have HB3 : Hid (Below w.heap.size w w3) := HB2.out.trans hb3
      have HMK3 : Hid (Make w.heap.size w.heap.size w3 (addO O x)) := hmk3
      obtain ⟨ap, cp, ep⟩ := hst3.len
      subst ep
      have GD3 : Hid (Good w3 (⟨rT, rK, rP⟩, .slice ap rP.length cp)) := ⟨hst3, HPL.out, fun g hg => (hfr3 g hg).2⟩
      clear hst3 hfr3 hmk3 hb3 oth3 kM2 kO2 out2 HB2 HAd
      cases rW
      · go_wp2_with fail
        go_roundw
        case rel =>
          have e : upA l (k + 1) = (addO O x, F) := by rw [HUP.out, HST.out]; rfl
          refine ⟨k + 1, _, by omega, by go_num, rfl, ?_⟩
          rw [e]
          have bA : Below w3.heap.size w3 (w3.alloc (.cells #[.int .i64 rT, .bool rK, .slice ap rP.length cp] 26)) := (Below.refl _ w3).alloc (Nat.le_refl _) _
          obtain ⟨ov3, q1, q2⟩ := HMK3.out
          exact ⟨out3.out.below bA, ⟨ov3, q1.alloc _, q2.alloc _⟩, addO_len O x HO3.out, (show F.length ≤ k + 1 by have := HLN.out; omega), (show ∀ y ∈ addO O x, _ from fun y hy => (addO_mem hy).elim (HOC.out y) (fun e => by rw [e]; exact HXC.out)), HCA2.out, HB3.out.alloc HB3.out.size _⟩
        case measure => simp [intOf]; omega
      · obtain ⟨ps, hp1, hp2, hp3⟩ := out3.out
        have hpl : ps.length = m := by rw [HM.out, ← hp1, List.length_map]
        rw [hpl] at hp2
        have HP1 : Hid (ps.map Prod.fst = F) := hp1
        have HP3 : Hid (∀ p ∈ ps, Good w3 p) := hp3
        have HPN : Hid (ps.length = m) := hpl
        have OW3 : Hid (w3.ownsRow w.heap.size 26 3 (.slice au m cu) m (frCells ps)) := hp2
        clear hp1 hp2 hp3 hpl
        have own1 : Hid (((w3.alloc (.cells #[.int .i64 rT, .bool rK, .slice ap rP.length cp] 26)).alloc (.cells #[.int .i64 rT, .bool rK, .slice ap rP.length cp] 26)).ownsRow w.heap.size 26 3 (.slice au m cu) m (frCells ps)) := (OW3.out.alloc _).alloc _
        have new : Hid (∀ j u, [Value.int .i64 rT, .bool rK, .slice ap rP.length cp][j]? = some u → ((w3.alloc (.cells #[.int .i64 rT, .bool rK, .slice ap rP.length cp] 26)).alloc (.cells #[.int .i64 rT, .bool rK, .slice ap rP.length cp] 26)).cell? ((⟨w3.heap.size + 1, 0, none⟩ : Addr).add j) = some u) := fun j u hj => by
          have hb := Blk.new (w3.alloc (.cells #[.int .i64 rT, .bool rK, .slice ap rP.length cp] 26)) #[.int .i64 rT, .bool rK, .slice ap rP.length cp] 26
          simp only [World.size_alloc] at hb
          match j, hj with
          | 0, hj => simp at hj; subst hj; exact hb.three.1
          | 1, hj => simp at hj; subst hj; exact hb.three.2.1
          | 2, hj => simp at hj; subst hj; exact hb.three.2.2
        have one1 : Hid (∀ u ∈ [Value.int .i64 rT, .bool rK, .slice ap rP.length cp], u.oneCell' = true) := fun u hu => by
          simp at hu
          rcases hu with rfl | rfl | rfl <;> rfl
        have l1 : Hid (m + 1 ≤ maxLen) := by show _ ≤ _; unfold maxLen; omega
        have l2 : Hid ((m + 1) * 40 ≤ 140737488355328) := by show _ ≤ _; omega
        have l3 : Hid (w.heap.size ≤ ((w3.alloc (.cells #[.int .i64 rT, .bool rK, .slice ap rP.length cp] 26)).alloc (.cells #[.int .i64 rT, .bool rK, .slice ap rP.length cp] 26)).heap.size) := by show _ ≤ _; have := HB3.out.size; simp; omega
        have aft : Hid (∀ v' w4, w4.ownsRow w.heap.size 26 3 v' (m + 1) (frCells ps ++ [Value.int .i64 rT, .bool rK, .slice ap rP.length cp]) → ((w3.alloc (.cells #[.int .i64 rT, .bool rK, .slice ap rP.length cp] 26)).alloc (.cells #[.int .i64 rT, .bool rK, .slice ap rP.length cp] 26)).grownBy w4 (Value.slice au m cu).ownBlock →
            Outs w.heap.size w4 v' (F ++ [⟨rT, rK, rP⟩]) ∧ Make w.heap.size w.heap.size w4 (addO O x) ∧ Below w.heap.size w w4) := fun v' w4 ho4 hg4 => by
          have hsz := hg4.size
          simp only [World.size_alloc] at hsz
          have hown : ∀ g cur ty, Blk w3 g cur ty → ty ≠ 26 → w4.heap[g]? = w3.heap[g]? := fun g cur ty hc hne => by
            rw [hg4.block g (by have := hc.lt; simp; omega) (fun e => by obtain ⟨_, cur2, h2⟩ := owns_blk OW3.out e.symm; exact Apart_type hc h2 hne rfl), Below.heap_alloc _ _ _ (by have := hc.lt; simp; omega), Below.heap_alloc _ _ _ hc.lt]
          refine ⟨⟨ps ++ [(⟨rT, rK, rP⟩, .slice ap rP.length cp)], by rw [List.map_append, HP1.out]; rfl, ?_, fun p hp => ?_⟩, ?_, ?_⟩
          · rw [List.length_append, HPN.out, frCells_append]
            exact ho4
          · rcases List.mem_append.1 hp with hp | hp
            · exact (HP3.out p hp).same (by omega) (fun g cur hc => hown g cur _ hc (by decide))
            · simp at hp
              subst hp
              exact GD3.out.same (by omega) (fun g cur hc => hown g cur _ hc (by decide))
          · obtain ⟨ov3, q1, q2⟩ := HMK3.out
            exact ⟨ov3, (hown _ _ _ q1 (by decide)).trans q1, owns_same q2 (fun g hg => by obtain ⟨_, cur2, h2⟩ := owns_blk q2 hg; exact hown _ _ _ h2 (by decide))⟩
          · exact ((HB3.out.alloc HB3.out.size _).alloc (by have := HB3.out.size; simp; omega) _).grown hg4 (by have := HB3.out.size; simp; omega) (fun j hj => (OW3.out.lt j hj).1)
        clear out3 OW3
        go_wp2_with (at_builtin; refine wpList_append_own2 _ rfl _ _ 42 rfl w.heap.size 26 i0 _ 3 40 Try.underlying42 hi hz0 hz1 hz2 rfl (by decide) _ m (frCells ps) rfl own1.out ⟨w3.heap.size + 1, 0, none⟩ 1 1 [Value.int .i64 rT, .bool rK, .slice ap rP.length cp] rfl rfl new.out one1.out l1.out l2.out l3.out ?_; intro v' w4 ho4 hg4 _; have AF : Hid _ := aft.out v' w4 ho4 hg4; clear ho4 hg4)
        go_roundw
        case rel =>
          have e : upA l (k + 1) = (addO O x, F ++ [⟨rT, rK, rP⟩]) := by rw [HUP.out, HST.out]; rfl
          refine ⟨k + 1, _, by omega, by go_num, rfl, ?_⟩
          rw [e]
          exact ⟨AF.out.1, AF.out.2.1, addO_len O x HO3.out, (show (F ++ [_]).length ≤ k + 1 by have := HLN.out; simp; omega), (show ∀ y ∈ addO O x, _ from fun y hy => (addO_mem hy).elim (HOC.out y) (fun e => by rw [e]; exact HXC.out)), HCA2.out, AF.out.2.2⟩
        case measure => simp [intOf]; omega
    · have hkl : k = n := by omega
      subst hkl
      obtain ⟨au, cu, eu⟩ := HOut.out.len
      obtain ⟨m, hm⟩ : ∃ m, m = (upA l k).2.length := ⟨_, rfl⟩
      rw [← hm] at eu
      subst eu
      have hE0 : E = 0 := by
        have h := HCA.out
        rw [HN.out, List.take_length] at h
        rw [HE2.out, h]
      have OUT : Hid (Outs w.heap.size wr (.slice au m cu) R) := by
        show Outs _ _ _ _
        rw [HR.out, hE0, if_pos rfl]
        exact HOut.out
      have HE0 : Hid (E = 0) := hE0
      clear HOut hm hE0
      go_wp2
      exact bodyPost_ret (v := .tuple #[.slice au m cu, .int .i64 0]) (by simp [results, Try.results16, go_sem]) rfl ⟨_, by rw [HE0.out], OUT.out, BW.out⟩

end Go.Proofs.Ytnpaejknoipicaf
