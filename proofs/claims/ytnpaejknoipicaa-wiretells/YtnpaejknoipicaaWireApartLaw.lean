/-
  'switchbacklaw.WireApart' returns true, whatever it is handed.
-/
import Derived.Test.YtnpaejknoipicaaWireMath
import Derived.Test.YtnpaejknoipicaaWireBegun
import Derived.Test.YtnpaejknoipicaaWireEq
namespace Go.Proofs.Ytnpaejknoipicaa
open Go.RowKit Go.Sort

/-- what Encode answers, in one row -/
def Pk.out (p : Pk) : List UInt8 := if p.chk == 0 then p.enc else []
theorem encode_any (p : Pk) (w : World) :
    Calls Try.prog 9 #[p.val] w fun e w' => e = .returned (.tuple #[.string (ba p.out), .int .i64 p.chk]) ∧ Below w.heap.size w w' := by
  cases h : (p.chk == 0)
  · have := encode_no p w h
    rw [show p.out = [] by simp [Pk.out, h]]
    exact this
  · have h0 : p.chk = 0 := by simpa using h
    have := encode_ok p w h0
    rw [show p.out = p.enc by simp [Pk.out, h], h0]
    exact this

theorem ba_nil : (ba []).toList.isEmpty = true := by rw [ByteArray.toList_eq]; rfl

theorem apart_math (p q : Pk) (m n : List UInt8) (hp : p.chk = 0) (hq : q.chk = 0) (hm : m = p.enc) (hn : n = q.enc) (hl : m.length ≤ n.length) :
    ((((ba n).extract 0 (ba m).size).toList == (ba m).toList) == Pk.eqB p q) = true := by
  rw [ba_size, ba_take, ByteArray.toList_eq, ByteArray.toList_eq, ba_data, ba_data, beq_iff_eq, Bool.eq_iff_iff, Pk.eqB_iff, beq_iff_eq]
  constructor
  · intro h
    obtain ⟨_, _, _, _, h5, _⟩ := Pk.chk_ok hp
    obtain ⟨_, _, _, _, g5, _⟩ := Pk.chk_ok hq
    have e1 : m[7]? = some (byteU p.t.size 0) := by rw [hm, Pk.enc_eq]; rfl
    have e2 : n[7]? = some (byteU q.t.size 0) := by rw [hn, Pk.enc_eq]; rfl
    have l1 : m.length = 8 + p.t.size := by rw [hm, Pk.enc_eq]; show p.t.data.toList.length + 8 = _; rw [Nat.add_comm]; rfl
    have l2 : n.length = 8 + q.t.size := by rw [hn, Pk.enc_eq]; show q.t.data.toList.length + 8 = _; rw [Nat.add_comm]; rfl
    have e3 : (n.take m.length)[7]? = n[7]? := by rw [List.getElem?_take, if_pos (by omega)]
    rw [h, e1, e2] at e3
    have e4 : byteU p.t.size 0 = byteU q.t.size 0 := by simpa using e3
    have e5 := b0 p.t.size
    have e6 := b0 q.t.size
    rw [e4] at e5
    have hsz : p.t.size = q.t.size := by omega
    have hnm : n = m := by rw [← h, List.take_of_length_le (by omega)]
    have d1 := Pk.dec_enc p hp
    have d2 := Pk.dec_enc q hq
    rw [← hm] at d1
    rw [← hn, hnm, d1] at d2
    simpa using d2
  · intro h
    subst h
    rw [hn, hm, List.take_length]

set_option maxHeartbeats 4000000 in
theorem wireApart_any (p q : Pk) (w : World) :
    Calls Try.prog 5 #[p.val, q.val] w fun e w' => e = .returned (.bool true) ∧ Below w.heap.size w w' := by
  have HP := @id (Hid (∀ w : World, Calls Try.prog 9 #[p.val] w fun e w' => e = .returned (.tuple #[.string (ba p.out), .int .i64 p.chk]) ∧ Below w.heap.size w w')) (encode_any p)
  have HQ := @id (Hid (∀ w : World, Calls Try.prog 9 #[q.val] w fun e w' => e = .returned (.tuple #[.string (ba q.out), .int .i64 q.chk]) ∧ Below w.heap.size w w')) (encode_any q)
  obtain ⟨m, hm⟩ : ∃ m, m = p.out := ⟨_, rfl⟩
  obtain ⟨n, hn⟩ : ∃ n, n = q.out := ⟨_, rfl⟩
  obtain ⟨c, hc⟩ : ∃ c, c = p.chk := ⟨_, rfl⟩
  obtain ⟨d, hd⟩ : ∃ d, d = q.chk := ⟨_, rfl⟩
  rw [← hm, ← hc] at HP
  rw [← hn, ← hd] at HQ
  have hme : (c == 0) = false → (ba m).toList.isEmpty = true := fun h => by
    have : m = [] := by rw [hm, Pk.out, ← hc, h]; rfl
    rw [this]; exact ba_nil
  have hne : (d == 0) = false → (ba n).toList.isEmpty = true := fun h => by
    have : n = [] := by rw [hn, Pk.out, ← hd, h]; rfl
    rw [this]; exact ba_nil
  have hAB : c = 0 → d = 0 → m.length ≤ n.length → ((((ba n).extract 0 (ba m).size).toList == (ba m).toList) == Pk.eqB p q) = true := fun h1 h2 hl =>
    apart_math p q m n (by rw [← hc, h1]) (by rw [← hd, h2]) (by rw [hm, Pk.out, ← hc, h1]; rfl) (by rw [hn, Pk.out, ← hd, h2]; rfl) hl
  have HAB := @id (Hid _) hAB
  clear hm hn hc hd hAB
  cases hcz : (c == 0)
  · have hE := hme hcz
    have hcn : (c != 0) = true := by simp at hcz; simp [hcz]
    cases hdz : (d == 0)
    · have hE2 := hne hdz
      have hdn : (d != 0) = true := by simp at hdz; simp [hdz]
      clear hme hne
      obtain ⟨seq, time, f, e, k, t⟩ := p
      obtain ⟨seq', time', f', e', k', t'⟩ := q
      simp only [Pk.val] at HP HQ ⊢
      clear HAB
      have bp0 := (Blk.new w #[.int .i64 seq, .int .i64 time, .bool f, .bool e, .bool k, .string t] 23).alloc (.cells #[.int .i64 seq', .int .i64 time', .bool f', .bool e', .bool k', .string t'] 23)
      have bq0 := Blk.new (w.alloc (.cells #[.int .i64 seq, .int .i64 time, .bool f, .bool e, .bool k, .string t] 23)) #[.int .i64 seq', .int .i64 time', .bool f', .bool e', .bool k', .string t'] 23
      have F0 : Below w.heap.size w ((w.alloc (.cells #[.int .i64 seq, .int .i64 time, .bool f, .bool e, .bool k, .string t] 23)).alloc (.cells #[.int .i64 seq', .int .i64 time', .bool f', .bool e', .bool k', .string t'] 23)) := ((Below.refl _ w).alloc (Nat.le_refl _) _).alloc (by simp) _
      rw [World.size_alloc] at bq0
      go_enter Try.func5, Try.ntmps5
      go_wp2_with fail
      refine (HP.out _).mono ?_
      rintro r w1 ⟨rfl, hb1⟩
      have F1 := F0.trans (hb1.mono F0.size)
      have bp1 := bp0.below hb1 bp0.lt
      have bq1 := bq0.below hb1 bq0.lt
      obtain ⟨x0, x1, x2, x3, x4, x5, _⟩ := bq1.six
      clear hb1 bp0 bq0 F0 HP
      go_wp2_with fail
      refine (HQ.out _).mono ?_
      rintro r w2 ⟨rfl, hb2⟩
      have F2 := F1.trans (hb2.mono F1.size)
      have bp2 := bp1.below hb2 bp1.lt
      have bq2 := bq1.below hb2 bq1.lt
      clear hb2 bp1 bq1 F1 HQ x0 x1 x2 x3 x4 x5
      go_wp2_with (go_at_call 14; refine (wireBegun_any _).mono ?_; rintro e w3 ⟨rfl, hb3⟩)
      have F3 := F2.trans (hb3.mono F2.size)
      go_ret
      exact ⟨rfl, F3⟩
    · have hd0 : d = 0 := by simpa using hdz
      subst hd0
      clear hme hne hdz
      obtain ⟨seq, time, f, e, k, t⟩ := p
      obtain ⟨seq', time', f', e', k', t'⟩ := q
      simp only [Pk.val] at HP HQ ⊢
      clear HAB
      have bp0 := (Blk.new w #[.int .i64 seq, .int .i64 time, .bool f, .bool e, .bool k, .string t] 23).alloc (.cells #[.int .i64 seq', .int .i64 time', .bool f', .bool e', .bool k', .string t'] 23)
      have bq0 := Blk.new (w.alloc (.cells #[.int .i64 seq, .int .i64 time, .bool f, .bool e, .bool k, .string t] 23)) #[.int .i64 seq', .int .i64 time', .bool f', .bool e', .bool k', .string t'] 23
      have F0 : Below w.heap.size w ((w.alloc (.cells #[.int .i64 seq, .int .i64 time, .bool f, .bool e, .bool k, .string t] 23)).alloc (.cells #[.int .i64 seq', .int .i64 time', .bool f', .bool e', .bool k', .string t'] 23)) := ((Below.refl _ w).alloc (Nat.le_refl _) _).alloc (by simp) _
      rw [World.size_alloc] at bq0
      go_enter Try.func5, Try.ntmps5
      go_wp2_with fail
      refine (HP.out _).mono ?_
      rintro r w1 ⟨rfl, hb1⟩
      have F1 := F0.trans (hb1.mono F0.size)
      have bp1 := bp0.below hb1 bp0.lt
      have bq1 := bq0.below hb1 bq0.lt
      obtain ⟨x0, x1, x2, x3, x4, x5, _⟩ := bq1.six
      clear hb1 bp0 bq0 F0 HP
      go_wp2_with fail
      refine (HQ.out _).mono ?_
      rintro r w2 ⟨rfl, hb2⟩
      have F2 := F1.trans (hb2.mono F1.size)
      have bp2 := bp1.below hb2 bp1.lt
      have bq2 := bq1.below hb2 bq1.lt
      clear hb2 bp1 bq1 F1 HQ x0 x1 x2 x3 x4 x5
      go_wp2_with (go_at_call 14; refine (wireBegun_any _).mono ?_; rintro e w3 ⟨rfl, hb3⟩)
      have F3 := F2.trans (hb3.mono F2.size)
      go_ret
      exact ⟨rfl, F3⟩
  · have hc0 : c = 0 := by simpa using hcz
    subst hc0
    cases hdz : (d == 0)
    · have hE2 := hne hdz
      have hdn : (d != 0) = true := by simp at hdz; simp [hdz]
      clear hme hne hcz
      obtain ⟨seq, time, f, e, k, t⟩ := p
      obtain ⟨seq', time', f', e', k', t'⟩ := q
      simp only [Pk.val] at HP HQ ⊢
      clear HAB
      have bp0 := (Blk.new w #[.int .i64 seq, .int .i64 time, .bool f, .bool e, .bool k, .string t] 23).alloc (.cells #[.int .i64 seq', .int .i64 time', .bool f', .bool e', .bool k', .string t'] 23)
      have bq0 := Blk.new (w.alloc (.cells #[.int .i64 seq, .int .i64 time, .bool f, .bool e, .bool k, .string t] 23)) #[.int .i64 seq', .int .i64 time', .bool f', .bool e', .bool k', .string t'] 23
      have F0 : Below w.heap.size w ((w.alloc (.cells #[.int .i64 seq, .int .i64 time, .bool f, .bool e, .bool k, .string t] 23)).alloc (.cells #[.int .i64 seq', .int .i64 time', .bool f', .bool e', .bool k', .string t'] 23)) := ((Below.refl _ w).alloc (Nat.le_refl _) _).alloc (by simp) _
      rw [World.size_alloc] at bq0
      go_enter Try.func5, Try.ntmps5
      go_wp2_with fail
      refine (HP.out _).mono ?_
      rintro r w1 ⟨rfl, hb1⟩
      have F1 := F0.trans (hb1.mono F0.size)
      have bp1 := bp0.below hb1 bp0.lt
      have bq1 := bq0.below hb1 bq0.lt
      obtain ⟨x0, x1, x2, x3, x4, x5, _⟩ := bq1.six
      clear hb1 bp0 bq0 F0 HP
      go_wp2_with fail
      refine (HQ.out _).mono ?_
      rintro r w2 ⟨rfl, hb2⟩
      have F2 := F1.trans (hb2.mono F1.size)
      have bp2 := bp1.below hb2 bp1.lt
      have bq2 := bq1.below hb2 bq1.lt
      clear hb2 bp1 bq1 F1 HQ x0 x1 x2 x3 x4 x5
      go_wp2_with (go_at_call 14; refine (wireBegun_any _).mono ?_; rintro e w3 ⟨rfl, hb3⟩)
      have F3 := F2.trans (hb3.mono F2.size)
      go_ret
      exact ⟨rfl, F3⟩
    · have hd0 : d = 0 := by simpa using hdz
      subst hd0
      clear hme hne hcz hdz
      by_cases hlen : n.length < m.length
      · have hl : ((ba n).size : Int) < ((ba m).size : Int) := by rw [ba_size, ba_size]; omega
        obtain ⟨seq, time, f, e, k, t⟩ := p
        obtain ⟨seq', time', f', e', k', t'⟩ := q
        simp only [Pk.val] at HP HQ ⊢
        clear HAB
        have bp0 := (Blk.new w #[.int .i64 seq, .int .i64 time, .bool f, .bool e, .bool k, .string t] 23).alloc (.cells #[.int .i64 seq', .int .i64 time', .bool f', .bool e', .bool k', .string t'] 23)
        have bq0 := Blk.new (w.alloc (.cells #[.int .i64 seq, .int .i64 time, .bool f, .bool e, .bool k, .string t] 23)) #[.int .i64 seq', .int .i64 time', .bool f', .bool e', .bool k', .string t'] 23
        have F0 : Below w.heap.size w ((w.alloc (.cells #[.int .i64 seq, .int .i64 time, .bool f, .bool e, .bool k, .string t] 23)).alloc (.cells #[.int .i64 seq', .int .i64 time', .bool f', .bool e', .bool k', .string t'] 23)) := ((Below.refl _ w).alloc (Nat.le_refl _) _).alloc (by simp) _
        rw [World.size_alloc] at bq0
        go_enter Try.func5, Try.ntmps5
        go_wp2_with fail
        refine (HP.out _).mono ?_
        rintro r w1 ⟨rfl, hb1⟩
        have F1 := F0.trans (hb1.mono F0.size)
        have bp1 := bp0.below hb1 bp0.lt
        have bq1 := bq0.below hb1 bq0.lt
        obtain ⟨x0, x1, x2, x3, x4, x5, _⟩ := bq1.six
        clear hb1 bp0 bq0 F0 HP
        go_wp2_with fail
        refine (HQ.out _).mono ?_
        rintro r w2 ⟨rfl, hb2⟩
        have F2 := F1.trans (hb2.mono F1.size)
        have bp2 := bp1.below hb2 bp1.lt
        have bq2 := bq1.below hb2 bq1.lt
        clear hb2 bp1 bq1 F1 HQ x0 x1 x2 x3 x4 x5
        go_wp2_with (go_at_call 14; refine (wireBegun_any _).mono ?_; rintro e w3 ⟨rfl, hb3⟩)
        have F3 := F2.trans (hb3.mono F2.size)
        go_ret
        exact ⟨rfl, F3⟩
      · have hl : ¬ ((ba n).size : Int) < ((ba m).size : Int) := by rw [ba_size, ba_size]; omega
        obtain ⟨seq, time, f, e, k, t⟩ := p
        obtain ⟨seq', time', f', e', k', t'⟩ := q
        simp only [Pk.val] at HP HQ ⊢
        have heq := eql_pkt ⟨seq, time, f, e, k, t⟩ ⟨seq', time', f', e', k', t'⟩
        obtain ⟨B, hB⟩ : ∃ B, B = Pk.eqB ⟨seq, time, f, e, k, t⟩ ⟨seq', time', f', e', k', t'⟩ := ⟨_, rfl⟩
        rw [← hB] at heq HAB
        simp only [Pk.val] at heq
        clear hB
        have bp0 := (Blk.new w #[.int .i64 seq, .int .i64 time, .bool f, .bool e, .bool k, .string t] 23).alloc (.cells #[.int .i64 seq', .int .i64 time', .bool f', .bool e', .bool k', .string t'] 23)
        have bq0 := Blk.new (w.alloc (.cells #[.int .i64 seq, .int .i64 time, .bool f, .bool e, .bool k, .string t] 23)) #[.int .i64 seq', .int .i64 time', .bool f', .bool e', .bool k', .string t'] 23
        have F0 : Below w.heap.size w ((w.alloc (.cells #[.int .i64 seq, .int .i64 time, .bool f, .bool e, .bool k, .string t] 23)).alloc (.cells #[.int .i64 seq', .int .i64 time', .bool f', .bool e', .bool k', .string t'] 23)) := ((Below.refl _ w).alloc (Nat.le_refl _) _).alloc (by simp) _
        rw [World.size_alloc] at bq0
        go_enter Try.func5, Try.ntmps5
        go_wp2_with fail
        refine (HP.out _).mono ?_
        rintro r w1 ⟨rfl, hb1⟩
        have F1 := F0.trans (hb1.mono F0.size)
        have bp1 := bp0.below hb1 bp0.lt
        have bq1 := bq0.below hb1 bq0.lt
        obtain ⟨x0, x1, x2, x3, x4, x5, _⟩ := bq1.six
        clear hb1 bp0 bq0 F0 HP
        go_wp2_with fail
        refine (HQ.out _).mono ?_
        rintro r w2 ⟨rfl, hb2⟩
        have F2 := F1.trans (hb2.mono F1.size)
        have bp2 := bp1.below hb2 bp1.lt
        have bq2 := bq1.below hb2 bq1.lt
        clear hb2 bp1 bq1 F1 HQ x0 x1 x2 x3 x4 x5
        go_wp2_with (go_at_call 14; refine (wireBegun_any _).mono ?_; rintro e w3 ⟨rfl, hb3⟩)
        have F3 := F2.trans (hb3.mono F2.size)
        have bp3 := bp2.below hb3 bp2.lt
        have bq3 := bq2.below hb3 bq2.lt
        clear hb3 bp2 bq2 F2
        obtain ⟨y0, y1, y2, y3, y4, y5, _⟩ := bp3.six
        obtain ⟨x0, x1, x2, x3, x4, x5, _⟩ := bq3.six
        go_quiet (fail)
        go_wp2
        go_ret
        refine ⟨?_, below_drewN F3 nq⟩
        show Ending.returned (.bool ((((ba n).extract 0 (ba m).size).toList == (ba m).toList) == B)) = _
        rw [HAB.out (by trivial) (by trivial) (by omega)]

end Go.Proofs.Ytnpaejknoipicaa
