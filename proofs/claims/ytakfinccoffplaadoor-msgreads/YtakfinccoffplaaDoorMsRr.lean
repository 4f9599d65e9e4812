/- The document's Read: one kind of message. -/
import Derived.Test.YtakfinccoffplaaDoorMsRrA
import Derived.Deep.CutBlock
import Derived.Deep.DeepCutAuto
import Derived.Deep.LoopGhost
namespace Go.Proofs.YtakfinccoffplaaDoor
open Go.ChangeShapes Go.WideShapes Go.ChangeAt Go.RowKit
set_option linter.unusedVariables false

set_option maxRecDepth 100000 in
set_option maxHeartbeats 8000000 in
theorem rread_event (s : ByteArray) (w : World) (hs2 : s.size ≤ 1970) (hkd : (pI (s.data.toList, 0)).1 = 3 ∨ (pI (s.data.toList, 0)).1 = 4) :
    Calls Tryd.prog 15 #[.string s] w fun e w' => ∃ fa fc va vc, e = .returned (.tuple #[(rdM s.data.toList).1.val fa fc va vc, .int .i64 ((rdM s.data.toList).2 : Int)]) ∧
      InRow 1 encS okS ByteArray.empty w' fa (rdM s.data.toList).1.fl.length (rdM s.data.toList).1.fl ∧ InRow 2 Vl.cells Vl.ok vl0 w' va (rdM s.data.toList).1.vl.length (rdM s.data.toList).1.vl ∧ Below w.heap.size w w' := by
  have hls : s.data.toList.length = s.size := by simp
  have hbig : ¬ 1970 < s.size := by omega
  have h1 : ¬ (1970 : Int) < (s.size : Int) := by omega
  obtain ⟨W1, hW1⟩ : ∃ W1, W1 = w.alloc (.cells #[.int .i64 0, .string ⟨#[]⟩, .bool false, .slice none 0 0, .int .i64 0, .int .i64 0, .int .i64 0, .slice none 0 0, .string ⟨#[]⟩] 37) := ⟨_, rfl⟩
  have s1 : W1.heap.size = w.heap.size + 1 := by rw [hW1]; simp
  have b1 : Below w.heap.size w W1 := by rw [hW1]; exact below1 _ _
  have r1 : W1.heap[w.heap.size]? = some (.cells #[.int .i64 0, .string ⟨#[]⟩, .bool false, .slice none 0 0, .int .i64 0, .int .i64 0, .int .i64 0, .slice none 0 0, .string ⟨#[]⟩] 37 (0, 0)) := by rw [hW1]; exact heap_alloc_new w _
  have HM : Hid (rdM s.data.toList = finO (rdK (pI (s.data.toList, 0)).1 (pT 40 (pI (s.data.toList, 0)).2).1 (pT 40 (pI (s.data.toList, 0)).2).2)) := (by unfold rdM; rw [if_neg (by omega)]; rfl : rdM s.data.toList = _)
  clear hls hbig
  obtain ⟨p1, hp1, ci⟩ := cI s 0 (s.data.toList, 0) ⟨Nat.zero_le _, rfl⟩ (by omega)
  obtain ⟨p2, hp2, cx⟩ := cT s p1 _ hp1 (by omega) 40 (by omega)
  generalize hk : (pI (s.data.toList, 0)).1 = k at *
  generalize hst1 : (pI (s.data.toList, 0)).2 = st1 at *
  generalize hg : (pT 40 st1).1 = g at *
  generalize hst2 : (pT 40 st1).2 = st2 at *
  have hgs : g.size ≤ 9223372036854775807 := by
    rw [← hg]
    unfold pT
    split
    · split
      · split
        · split
          · rw [ba_szL, List.length_take]; omega
          · exact Nat.zero_le _
        · exact Nat.zero_le _
      · exact Nat.zero_le _
    · exact Nat.zero_le _
  clear hk hst1 hg hst2
  have HKD : Hid (k = 3 ∨ k = 4) := hkd
  clear hkd
  generalize hc1 : st1.2 = c1 at *
  generalize hc2 : st2.2 = c2 at *
  clear hc1 hp1
  have HC2 : Hid (st2.2 = c2) := hc2
  clear hc2
  go_enter Tryd.func15, Tryd.ntmps15
  go_wp2_with fail
  rw [← hW1]
  refine (copen_any s _).mono ?_
  rintro e w2 ⟨rfl, hb2⟩
  go_wp2_with fail
  refine (ci _).mono ?_
  rintro e w3 ⟨rfl, hb3⟩
  have s3 : W1.heap.size ≤ w3.heap.size := Nat.le_trans hb2.size hb3.size
  have b13 : Below W1.heap.size W1 w3 := hb2.trans (hb3.mono hb2.size)
  obtain ⟨W4, hW4⟩ : ∃ W4, W4 = w3.alloc (.cells #[.string s, .int .i64 p1, .int .i64 c1] 78) := ⟨_, rfl⟩
  have b4 : Below w3.heap.size w3 W4 := by rw [hW4]; exact below1 _ _
  have q4 : W4.heap[w3.heap.size]? = some (.cells #[.string s, .int .i64 p1, .int .i64 c1] 78 (0, 0)) := by rw [hW4]; exact heap_alloc_new w3 _
  obtain ⟨t0, t1, t2⟩ := three q4
  have tl := lt_of_block q4
  go_upto_region 4 with fail
  rw [← hW4]
  clear hW4
  go_wp2_with fail
  refine (cx _).mono ?_
  rintro e w5 ⟨rfl, hb5⟩
  have q5 := (hb5.block _ tl).trans q4
  obtain ⟨u0, u1, u2⟩ := three q5
  have uf := frozen9 q5
  have ul := lt_of_block q5
  obtain ⟨z4, hz4⟩ : ∃ z4, z4 = w3.heap.size := ⟨_, rfl⟩
  rw [← hz4] at q5 u0 u1 u2 uf ul ⊢
  have HZ4 : Hid (z4 = w3.heap.size) := hz4
  clear hz4
  obtain ⟨W6, hW6⟩ : ∃ W6, W6 = ((w5.setCell ⟨z4, 0, none⟩ (.string s)).setCell ⟨z4, 1, none⟩ (.int .i64 p2)).setCell ⟨z4, 2, none⟩ (.int .i64 c2) := ⟨_, rfl⟩
  have q6 : W6.heap[z4]? = some (.cells #[.string s, .int .i64 p2, .int .i64 c2] 78 (0, 0)) := by
    rw [hW6]; simpa using box_set (i := 2) (box_set (i := 1) (box_set (i := 0) q5 (.string s)) (.int .i64 p2)) (.int .i64 c2)
  have o6 : ∀ j, j ≠ z4 → W6.heap[j]? = w5.heap[j]? := fun j hj => by rw [hW6, set_other hj, set_other hj, set_other hj]
  have N6 : Hid (W6.heap.size = w5.heap.size) := (by rw [hW6]; simp [World.setCell] : W6.heap.size = w5.heap.size)
  have e6 : W6.os = w5.os ∧ W6.tape = w5.tape ∧ W6.output = w5.output := by rw [hW6]; exact ⟨rfl, rfl, rfl⟩
  go_upto_region 5 with fail
  rw [← hW6]
  clear hW6 u0 u1 u2 uf ul q5 t0 t1 t2
  obtain ⟨W7, hW7⟩ : ∃ W7, W7 = W6.alloc (.cells #[.int .i64 k, .string g, .bool false, .slice none 0 0, .int .i64 0, .int .i64 0, .int .i64 0, .slice none 0 0, .string ⟨#[]⟩] 37) := ⟨_, rfl⟩
  have x7 : W7.heap[W6.heap.size]? = some (.cells #[.int .i64 k, .string g, .bool false, .slice none 0 0, .int .i64 0, .int .i64 0, .int .i64 0, .slice none 0 0, .string ⟨#[]⟩] 37 (0, 0)) := by rw [hW7]; exact heap_alloc_new W6 _
  have o7 : ∀ j, j < W6.heap.size → W7.heap[j]? = W6.heap[j]? := fun j hj => by rw [hW7]; exact Below.heap_alloc _ _ _ hj
  have N7 : Hid (W7.heap.size = W6.heap.size + 1) := (by rw [hW7]; simp : W7.heap.size = W6.heap.size + 1)
  have e7 : W7.os = W6.os ∧ W7.tape = W6.tape ∧ W7.output = W6.output := by rw [hW7]; exact ⟨rfl, rfl, rfl⟩
  go_upto_region 6 with fail
  rw [← hW7]
  clear hW7
  obtain ⟨z7, hz7⟩ : ∃ z7, z7 = W6.heap.size := ⟨_, rfl⟩
  rw [← hz7] at x7 o7 ⊢
  have HZ7 : Hid (z7 = W6.heap.size) := hz7
  clear hz7
  have s45 := hb5.size
  have s34 := b4.size
  have F7 : Hid (Fs w W7 z4 z7 s p2 c2 ⟨k, g, false, [], 0, 0, 0, [], ⟨#[]⟩⟩ none 0 none 0) := by
    have hz4 := HZ4.out
    have hz7 := HZ7.out
    have n6 := N6.out
    have n7 := N7.out
    have hold : ∀ j, j < w3.heap.size → W7.heap[j]? = w3.heap[j]? := fun j hj => by
      rw [o7 j (by omega), o6 j (by omega), hb5.block j (by omega)]; exact b4.block j hj
    refine ⟨(hold _ (by omega)).trans ((b13.block _ (by omega)).trans r1), (o7 z4 (by omega)).trans q6, x7, World.ownsRow_nil _ _ _ _, World.ownsRow_nil _ _ _ _, fun b hb => by simp [Value.ownBlock] at hb, by omega, by omega, ?_, by omega, ⟨hgs, by simp, by simp⟩, by show ByteArray.size ⟨#[]⟩ ≤ _; decide⟩
    refine ⟨?_, ?_, ?_, by omega, fun j hj => (hold j (by omega)).trans ((b13.block j (by omega)).trans (b1.block j hj))⟩
    · exact e7.1.trans (e6.1.trans (hb5.os.trans (b4.os.trans (b13.os.trans b1.os))))
    · exact e7.2.1.trans (e6.2.1.trans (hb5.tape.trans (b4.tape.trans (b13.tape.trans b1.tape))))
    · exact e7.2.2.trans (e6.2.2.trans (hb5.output.trans (b4.output.trans (b13.output.trans b1.output))))
  clear hb2 hb3 hb5 b4 b13 s3 q4 tl HZ4 q6 o6 N6 e6 x7 o7 N7 e7 HZ7 s45 s34 r1 s1 b1 hW1 ci cx
  have hkd := HKD.out
  clear HKD
  have k1 : ¬ k = 1 := by omega
  have k5 : ¬ k = 5 := by omega
  have k34 := hkd
  clear hkd
  have q1 := beq_f k1
  have r1 : 3 ≤ k := by omega
  have r2 : k ≤ 5 := by omega
  have hcase : (k == 3) = true ∨ ((k == 3) = false ∧ (k == 4) = true) := by
    rcases k34 with h | h
    · exact .inl (beq_t h)
    · exact .inr ⟨beq_f (by omega), beq_t h⟩
  have hK : rdK k g st2 = some (⟨k, g, false, [], (pI st2).1, (pI (pI st2).2).1, (pI (pI (pI st2).2).2).1, (pVs (pB 5 (pI (pI (pI st2).2).2).2).1.toNat (pB 5 (pI (pI (pI st2).2).2).2).2).1, (pT 1970 (pVs (pB 5 (pI (pI (pI st2).2).2).2).1.toNat (pB 5 (pI (pI (pI st2).2).2).2).2).2).1⟩, (pT 1970 (pVs (pB 5 (pI (pI (pI st2).2).2).2).1.toNat (pB 5 (pI (pI (pI st2).2).2).2).2).2).2) := by
    unfold rdK; rw [if_neg k1, if_neg k5, if_pos k34]
  have HF0 : Hid (rdM s.data.toList = _) := (HM.out.trans (congrArg finO hK) : rdM s.data.toList = finO _)
  clear hK HM k1 k5 k34
  obtain ⟨p3, hp3, ci3⟩ := cI s p2 st2 hp2 (by omega)
  obtain ⟨p4, hp4, ci4⟩ := cI s p3 _ hp3 (by omega)
  rw [HC2.out] at ci3
  generalize (pI st2).1 = pub at *
  generalize (pI st2).2 = st3 at *
  generalize (pI st3).1 = seq at *
  generalize (pI st3).2 = st4 at *
  generalize hc3 : st3.2 = c3 at *
  generalize hc4 : st4.2 = c4 at *
  have HC4 : Hid (st4.2 = c4) := hc4
  clear hc3 hc4 hp3 hp2 HC2
  obtain ⟨t0, t1, t2⟩ := three F7.out.cur
  have tl := lt_of_block F7.out.cur
  go_wp2_with fail
  refine (ci3 _).mono ?_
  rintro e w8 ⟨rfl, hb8⟩
  have F8 : Hid (Fs w w8 z4 z7 s p2 c2 ⟨k, g, false, [], 0, 0, 0, [], ⟨#[]⟩⟩ none 0 none 0) := F7.out.below hb8
  clear t0 t1 t2 tl hb8 F7
  go_wp2_with fail
  refine (ci4 _).mono ?_
  rintro e w10 ⟨rfl, hb10⟩
  have F10 : Hid (Fs w w10 z4 z7 s p2 c2 ⟨k, g, false, [], 0, 0, 0, [], ⟨#[]⟩⟩ none 0 none 0) := (F8.out.below (below1 _ _)).below hb10
  clear hb10 F8
  obtain ⟨W11, hW11⟩ : ∃ W11, W11 = w10.alloc (.cells #[.string s, .int .i64 p4, .int .i64 c4] 78) := ⟨_, rfl⟩
  have F11 : Hid (Fs w W11 z4 z7 s p2 c2 ⟨k, g, false, [], 0, 0, 0, [], ⟨#[]⟩⟩ none 0 none 0) := (by rw [hW11]; exact F10.out.below (below1 _ _) : Fs w W11 z4 z7 s p2 c2 ⟨k, g, false, [], 0, 0, 0, [], ⟨#[]⟩⟩ none 0 none 0)
  have q11 : W11.heap[w10.heap.size]? = some (.cells #[.string s, .int .i64 p4, .int .i64 c4] 78 (0, 0)) := by rw [hW11]; exact heap_alloc_new w10 _
  go_upto_region 21 with fail
  rw [← hW11]
  clear hW11 F10
  obtain ⟨t0, t1, t2⟩ := three q11
  have tl := lt_of_block q11
  obtain ⟨u0, u1, u2⟩ := three F11.out.cur
  have uf := frozen9 F11.out.cur
  have ul := lt_of_block F11.out.cur
  obtain ⟨W12, hW12⟩ : ∃ W12, W12 = ((W11.setCell ⟨z4, 0, none⟩ (.string s)).setCell ⟨z4, 1, none⟩ (.int .i64 p4)).setCell ⟨z4, 2, none⟩ (.int .i64 c4) := ⟨_, rfl⟩
  have F12 : Hid (Fs w W12 z4 z7 s p4 c4 ⟨k, g, false, [], 0, 0, 0, [], ⟨#[]⟩⟩ none 0 none 0) := (by rw [hW12]; exact F11.out.setCur : Fs w W12 z4 z7 s p4 c4 ⟨k, g, false, [], 0, 0, 0, [], ⟨#[]⟩⟩ none 0 none 0)
  go_upto_region 22 with fail
  rw [← hW12]
  clear hW12 t0 t1 t2 tl u0 u1 u2 uf ul q11 F11
  have v4 : W12.cell? ⟨z7, 4, none⟩ = some (.int .i64 0) := blk_cell (j := 4) F12.out.box (by simp)
  have vf := frozen9 F12.out.box
  have vl := lt_of_block F12.out.box
  obtain ⟨W13, hW13⟩ : ∃ W13, W13 = W12.setCell ⟨z7, 4, none⟩ (.int .i64 pub) := ⟨_, rfl⟩
  have F13 : Hid (Fs w W13 z4 z7 s p4 c4 ⟨k, g, false, [], pub, 0, 0, [], ⟨#[]⟩⟩ none 0 none 0) := (by
    rw [hW13]
    exact F12.out.setBox 4 (.int .i64 pub) ⟨k, g, false, [], pub, 0, 0, [], ⟨#[]⟩⟩ rfl rfl rfl (by show ByteArray.size ⟨#[]⟩ ≤ _; decide) (by simpa using box_set (i := 4) F12.out.box (.int .i64 pub)) : Fs w W13 z4 z7 s p4 c4 ⟨k, g, false, [], pub, 0, 0, [], ⟨#[]⟩⟩ none 0 none 0)
  go_upto_region 23 with fail
  rw [← hW13]
  clear hW13 v4 vf vl F12
  have v5 : W13.cell? ⟨z7, 5, none⟩ = some (.int .i64 0) := blk_cell (j := 5) F13.out.box (by simp)
  have vf := frozen9 F13.out.box
  have vl := lt_of_block F13.out.box
  obtain ⟨W14, hW14⟩ : ∃ W14, W14 = W13.setCell ⟨z7, 5, none⟩ (.int .i64 seq) := ⟨_, rfl⟩
  have F14 : Hid (Fs w W14 z4 z7 s p4 c4 ⟨k, g, false, [], pub, seq, 0, [], ⟨#[]⟩⟩ none 0 none 0) := (by
    rw [hW14]
    exact F13.out.setBox 5 (.int .i64 seq) ⟨k, g, false, [], pub, seq, 0, [], ⟨#[]⟩⟩ rfl rfl rfl (by show ByteArray.size ⟨#[]⟩ ≤ _; decide) (by simpa using box_set (i := 5) F13.out.box (.int .i64 seq)) : Fs w W14 z4 z7 s p4 c4 ⟨k, g, false, [], pub, seq, 0, [], ⟨#[]⟩⟩ none 0 none 0)
  go_upto_region 24 with fail
  rw [← hW14]
  clear hW14 v5 vf vl F13
  obtain ⟨p5, hp5, ci5⟩ := cI s p4 st4 hp4 (by omega)
  obtain ⟨p6, hp6, cb6⟩ := cB s p5 _ hp5 (by omega)
  have hcn := pB_range 5 (pI st4).2 (by omega)
  rw [HC4.out] at ci5
  generalize (pI st4).1 = hops at *
  generalize (pI st4).2 = st5 at *
  generalize (pB 5 st5).1 = cnt at *
  generalize (pB 5 st5).2 = st6 at *
  generalize hc5 : st5.2 = c5 at *
  generalize hc6 : st6.2 = c6 at *
  have HC6 : Hid (st6.2 = c6) := hc6
  clear hc5 hc6 hp5 hp4 HC4 ci3 ci4
  go_cut [112] (fun v wx => v = .bool true ∧ W14 = wx)
  case first =>
    rcases hcase with q3 | ⟨q3, q4⟩
    all_goals
      go_wp2
      go_meet
      exact ⟨rfl, rfl⟩
  case rest =>
    obtain ⟨rfl, hwx⟩ := hcut
    subst hwx
    clear hcase
    obtain ⟨t0, t1, t2⟩ := three F14.out.cur
    have tl := lt_of_block F14.out.cur
    go_wp2_with fail
    refine (ci5 _).mono ?_
    rintro e w15 ⟨rfl, hb15⟩
    have F15 : Hid (Fs w w15 z4 z7 s p4 c4 ⟨k, g, false, [], pub, seq, 0, [], ⟨#[]⟩⟩ none 0 none 0) := F14.out.below hb15
    clear t0 t1 t2 tl hb15 F14
    go_wp2_with fail
    refine (cb6 _).mono ?_
    rintro e w16 ⟨rfl, hb16⟩
    obtain ⟨W17, hW17⟩ : ∃ W17, W17 = w16.alloc (.cells #[.string s, .int .i64 p6, .int .i64 c6] 78) := ⟨_, rfl⟩
    have F17 : Hid (Fs w W17 z4 z7 s p4 c4 ⟨k, g, false, [], pub, seq, 0, [], ⟨#[]⟩⟩ none 0 none 0) := (by rw [hW17]; exact ((F15.out.below (below1 _ _)).below hb16).below (below1 _ _) : Fs w W17 z4 z7 s p4 c4 ⟨k, g, false, [], pub, seq, 0, [], ⟨#[]⟩⟩ none 0 none 0)
    have q17 : W17.heap[w16.heap.size]? = some (.cells #[.string s, .int .i64 p6, .int .i64 c6] 78 (0, 0)) := by rw [hW17]; exact heap_alloc_new w16 _
    go_upto_region 27 with fail
    rw [← hW17]
    clear hW17 F15 hb16
    obtain ⟨t0, t1, t2⟩ := three q17
    have tl := lt_of_block q17
    obtain ⟨u0, u1, u2⟩ := three F17.out.cur
    have uf := frozen9 F17.out.cur
    have ul := lt_of_block F17.out.cur
    obtain ⟨W18, hW18⟩ : ∃ W18, W18 = ((W17.setCell ⟨z4, 0, none⟩ (.string s)).setCell ⟨z4, 1, none⟩ (.int .i64 p6)).setCell ⟨z4, 2, none⟩ (.int .i64 c6) := ⟨_, rfl⟩
    have F18 : Hid (Fs w W18 z4 z7 s p6 c6 ⟨k, g, false, [], pub, seq, 0, [], ⟨#[]⟩⟩ none 0 none 0) := (by rw [hW18]; exact F17.out.setCur : Fs w W18 z4 z7 s p6 c6 ⟨k, g, false, [], pub, seq, 0, [], ⟨#[]⟩⟩ none 0 none 0)
    go_upto_region 28 with fail
    rw [← hW18]
    clear hW18 t0 t1 t2 tl u0 u1 u2 uf ul q17 F17
    have v6 : W18.cell? ⟨z7, 6, none⟩ = some (.int .i64 0) := blk_cell (j := 6) F18.out.box (by simp)
    have vf := frozen9 F18.out.box
    have vl := lt_of_block F18.out.box
    obtain ⟨W19, hW19⟩ : ∃ W19, W19 = W18.setCell ⟨z7, 6, none⟩ (.int .i64 hops) := ⟨_, rfl⟩
    have F19 : Hid (Fs w W19 z4 z7 s p6 c6 ⟨k, g, false, [], pub, seq, hops, [], ⟨#[]⟩⟩ none 0 none 0) := (by
      rw [hW19]
      exact F18.out.setBox 6 (.int .i64 hops) ⟨k, g, false, [], pub, seq, hops, [], ⟨#[]⟩⟩ rfl rfl rfl (by show ByteArray.size ⟨#[]⟩ ≤ _; decide) (by simpa using box_set (i := 6) F18.out.box (.int .i64 hops)) : Fs w W19 z4 z7 s p6 c6 ⟨k, g, false, [], pub, seq, hops, [], ⟨#[]⟩⟩ none 0 none 0)
    go_upto_region 29 with fail
    rw [← hW19]
    clear hW19 v6 vf vl F18 ci5 cb6
    obtain ⟨i0, hi0, hz0, hz1, hz2⟩ := info_parts Tryd.infoRVl
    go_wp2
    go_loopw [20] (fun x wr => ∃ (i a1 : Nat) (a : Option Addr) (p : Nat) (cc : Nat), x = .int .i64 i ∧ i ≤ cnt.toNat ∧ Hid (Pl15 s p (pVs i st6).2 ∧ (pVs i st6).2.2 = cc ∧ Fs w wr z4 z7 s p cc ⟨k, g, false, [], pub, seq, hops, (pVs i st6).1, ⟨#[]⟩⟩ none 0 a a1)) (fun x _ => cnt.toNat - (intOf x).toNat)
    case atStart => exact ⟨0, 0, none, p6, c6, rfl, Nat.zero_le _, hp6, HC6.out, F19.out⟩
    case round =>
      obtain ⟨i, a1, a, p, cc, rfl, hin, R⟩ := hrel
      by_cases hlt : (i : Int) < cnt
      · obtain ⟨p7, hp7, ci7⟩ := cI s p _ R.out.1 (by omega)
        obtain ⟨p8, hp8, ct8⟩ := cT s p7 _ hp7 (by omega) 1970 (by omega)
        rw [R.out.2.1] at ci7
        have HT : Hid ((pVs (i + 1) st6).1 = (pVs i st6).1 ++ [⟨(pI (pVs i st6).2).1, (pT 1970 (pI (pVs i st6).2).2).1⟩] ∧ (pVs (i + 1) st6).2 = (pT 1970 (pI (pVs i st6).2).2).2) := ⟨rfl, rfl⟩
        have F := R.out.2.2
        have hlen := pVs_len i st6
        generalize (pT 1970 (pI (pVs i st6).2).2).1 = str at *
        generalize (pT 1970 (pI (pVs i st6).2).2).2 = st8 at *
        generalize (pI (pVs i st6).2).1 = num at *
        generalize (pI (pVs i st6).2).2 = st7 at *
        generalize (pVs i st6).1 = vs at *
        have hvl16 : vs.length ≤ 100 := by omega
        generalize hc7 : st7.2 = c7 at *
        generalize hc8 : st8.2 = c8 at *
        have HC8 : Hid (st8.2 = c8) := hc8
        clear hc7 hc8 hp7 R hlen
        obtain ⟨t0, t1, t2⟩ := three F.cur
        have tl := lt_of_block F.cur
        go_wp2_with fail
        refine (ci7 _).mono ?_
        rintro e w20 ⟨rfl, hb20⟩
        have F20 : Hid (Fs w w20 z4 z7 s p cc ⟨k, g, false, [], pub, seq, hops, vs, ⟨#[]⟩⟩ none 0 a a1) := F.below hb20
        clear t0 t1 t2 tl hb20 F
        go_wp2_with fail
        refine (ct8 _).mono ?_
        rintro e w21 ⟨rfl, hb21⟩
        obtain ⟨W22, hW22⟩ : ∃ W22, W22 = w21.alloc (.cells #[.string s, .int .i64 p8, .int .i64 c8] 78) := ⟨_, rfl⟩
        have F22 : Hid (Fs w W22 z4 z7 s p cc ⟨k, g, false, [], pub, seq, hops, vs, ⟨#[]⟩⟩ none 0 a a1) := (by rw [hW22]; exact ((F20.out.below (below1 _ _)).below hb21).below (below1 _ _) : Fs w W22 z4 z7 s p cc ⟨k, g, false, [], pub, seq, hops, vs, ⟨#[]⟩⟩ none 0 a a1)
        have q22 : W22.heap[w21.heap.size]? = some (.cells #[.string s, .int .i64 p8, .int .i64 c8] 78 (0, 0)) := by rw [hW22]; exact heap_alloc_new w21 _
        go_upto_region 34 with fail
        rw [← hW22]
        clear hW22 F20 hb21
        obtain ⟨t0, t1, t2⟩ := three q22
        have tl := lt_of_block q22
        obtain ⟨u0, u1, u2⟩ := three F22.out.cur
        have uf := frozen9 F22.out.cur
        have ul := lt_of_block F22.out.cur
        obtain ⟨W23, hW23⟩ : ∃ W23, W23 = ((W22.setCell ⟨z4, 0, none⟩ (.string s)).setCell ⟨z4, 1, none⟩ (.int .i64 p8)).setCell ⟨z4, 2, none⟩ (.int .i64 c8) := ⟨_, rfl⟩
        have F23 : Hid (Fs w W23 z4 z7 s p8 c8 ⟨k, g, false, [], pub, seq, hops, vs, ⟨#[]⟩⟩ none 0 a a1) := (by rw [hW23]; exact F22.out.setCur : Fs w W23 z4 z7 s p8 c8 ⟨k, g, false, [], pub, seq, hops, vs, ⟨#[]⟩⟩ none 0 a a1)
        go_upto_region 35 with fail
        rw [← hW23]
        clear hW23 t0 t1 t2 tl u0 u1 u2 uf ul q22 F22 ci7 ct8
        have v7 : W23.cell? ⟨z7, 7, none⟩ = some (.slice a vs.length a1) := blk_cell (j := 7) F23.out.box (by simp)
        have vl := lt_of_block F23.out.box
        have hB4 := F23.out.size
        have hrow : W23.ownsRow (z7 + 1) 52 2 (.slice a vs.length a1) vs.length (vs.flatMap Vl.cells) := F23.out.rv
        go_wp2_with (at_builtin; refine wpList_own_append2 _ rfl _ _ 35 35 rfl (z7 + 1) 52 i0 _ 24 Tryd.underlying35 hi0 hz0 hz1 hz2 rfl _ _ _ rfl (hrow.alloc _) _ 1 (Vl.mk num str).cells rfl (src_RVl W23 ⟨num, str⟩ _ rfl) ?c3 ?c4 ?c5 ?_)
        case c3 => unfold maxLen; omega
        case c4 => omega
        case c5 => simp; omega
        intro v' w24 hap
        obtain ⟨a', d', hv'⟩ := hap.shape
        subst hv'
        have F24 : Hid (Fs w (w24.setCell ⟨z7, 7, none⟩ (.slice a' (vs.length + 1) d')) z4 z7 s p8 c8 ⟨k, g, false, [], pub, seq, hops, (vs ++ [⟨num, str⟩]), ⟨#[]⟩⟩ none 0 a' d') := F23.out.stepV hap (by show vs.length + 1 ≤ _; omega)
        have hb24 : w24.heap[z7]? = some _ := (hap.grown.block z7 (by simp; omega) (fun e => by have := (hrow.lt z7 e.symm).1; omega)).trans ((Below.heap_alloc W23 _ z7 vl).trans F23.out.box)
        have x7 : w24.cell? ⟨z7, 7, none⟩ = some _ := blk_cell (j := 7) hb24 (by simp)
        have xf := frozen9 hb24
        have xl := lt_of_block hb24
        clear hap hb24 v7 vl F23 hrow hB4
        go_wp2
        go_roundw
        case rel => exact ⟨i + 1, d', a', p8, c8, by go_num, by omega, by rw [HT.out.2]; exact hp8, by rw [HT.out.2]; exact HC8.out, by rw [HT.out.1]; exact F24.out⟩
        case measure => simp [intOf]; omega
      · obtain rfl : i = cnt.toNat := by omega
        obtain ⟨p9, hp9, ct9⟩ := cT s p _ R.out.1 (by omega) 1970 (by omega)
        rw [R.out.2.1] at ct9
        have F := R.out.2.2
        have hpys : (pT 1970 (pVs cnt.toNat st6).2).1.size ≤ 9223372036854775807 := pT_size _ _ (by omega)
        generalize (pT 1970 (pVs cnt.toNat st6).2).1 = pay at *
        generalize (pT 1970 (pVs cnt.toNat st6).2).2 = st9 at *
        generalize (pVs cnt.toNat st6).1 = vs at *
        generalize hc9 : st9.2 = c9 at *
        have HC9 : Hid (st9.2 = c9) := hc9
        clear hc9 R
        obtain ⟨t0, t1, t2⟩ := three F.cur
        have tl := lt_of_block F.cur
        go_wp2_with fail
        refine (ct9 _).mono ?_
        rintro e w25 ⟨rfl, hb25⟩
        obtain ⟨W26, hW26⟩ : ∃ W26, W26 = w25.alloc (.cells #[.string s, .int .i64 p9, .int .i64 c9] 78) := ⟨_, rfl⟩
        have F26 : Hid (Fs w W26 z4 z7 s p cc ⟨k, g, false, [], pub, seq, hops, vs, ⟨#[]⟩⟩ none 0 a a1) := (by rw [hW26]; exact (F.below hb25).below (below1 _ _) : Fs w W26 z4 z7 s p cc ⟨k, g, false, [], pub, seq, hops, vs, ⟨#[]⟩⟩ none 0 a a1)
        have q26 : W26.heap[w25.heap.size]? = some (.cells #[.string s, .int .i64 p9, .int .i64 c9] 78 (0, 0)) := by rw [hW26]; exact heap_alloc_new w25 _
        go_upto_region 37 with fail
        rw [← hW26]
        clear hW26 t0 t1 t2 tl F hb25 ct9
        obtain ⟨t0, t1, t2⟩ := three q26
        have tl := lt_of_block q26
        obtain ⟨u0, u1, u2⟩ := three F26.out.cur
        have uf := frozen9 F26.out.cur
        have ul := lt_of_block F26.out.cur
        obtain ⟨W27, hW27⟩ : ∃ W27, W27 = ((W26.setCell ⟨z4, 0, none⟩ (.string s)).setCell ⟨z4, 1, none⟩ (.int .i64 p9)).setCell ⟨z4, 2, none⟩ (.int .i64 c9) := ⟨_, rfl⟩
        have F27 : Hid (Fs w W27 z4 z7 s p9 c9 ⟨k, g, false, [], pub, seq, hops, vs, ⟨#[]⟩⟩ none 0 a a1) := (by rw [hW27]; exact F26.out.setCur : Fs w W27 z4 z7 s p9 c9 ⟨k, g, false, [], pub, seq, hops, vs, ⟨#[]⟩⟩ none 0 a a1)
        go_upto_region 38 with fail
        rw [← hW27]
        clear hW27 t0 t1 t2 tl u0 u1 u2 uf ul q26 F26
        have v8 : W27.cell? ⟨z7, 8, none⟩ = some (.string ⟨#[]⟩) := blk_cell (j := 8) F27.out.box (by simp)
        have vf := frozen9 F27.out.box
        have vl := lt_of_block F27.out.box
        obtain ⟨W28, hW28⟩ : ∃ W28, W28 = W27.setCell ⟨z7, 8, none⟩ (.string pay) := ⟨_, rfl⟩
        have F28 : Hid (Fs w W28 z4 z7 s p9 c9 ⟨k, g, false, [], pub, seq, hops, vs, pay⟩ none 0 a a1) := (by
          rw [hW28]
          exact F27.out.setBox 8 (.string pay) ⟨k, g, false, [], pub, seq, hops, vs, pay⟩ rfl rfl rfl hpys (by simpa using box_set (i := 8) F27.out.box (.string pay)) : Fs w W28 z4 z7 s p9 c9 ⟨k, g, false, [], pub, seq, hops, vs, pay⟩ none 0 a a1)
        go_upto_region 39 with fail
        rw [← hW28]
        clear hW28 v8 vf vl F27
        obtain ⟨m, hm⟩ : ∃ m : Mg, m = ⟨k, g, false, [], pub, seq, hops, vs, pay⟩ := ⟨_, rfl⟩
        have HF : Hid (rdM s.data.toList = fin m st9) := (by rw [hm]; exact HF0.out : rdM s.data.toList = fin m st9)
        have F : Hid (Fs w W28 z4 z7 s p9 c9 m none 0 a a1) := (by rw [hm]; exact F28.out : Fs w W28 z4 z7 s p9 c9 m none 0 a a1)
        have hpl : Pl15 s p9 st9 := hp9
        have HCc := HC9
        clear F28 HF0 hm hp9 F19
        have cd := cD s p9 st9 hpl
        have hfd := field2 s p9
        rw [HCc.out] at cd
        have q4 := F.out.cur
        obtain ⟨t0, t1, t2⟩ := three q4
        have tl := lt_of_block q4
        clear hpl
        by_cases hd : dn st9 = 0
        · rw [hd] at cd
          go_wp2_with fail
          refine (cd _).mono ?_
          rintro e w8 ⟨rfl, hb8⟩
          have F8 := F.out.below hb8
          have q8 := F8.box
          obtain ⟨x0, x1, x2, x3, x4, x5, x6, x7, x8⟩ := cells9 q8
          have xl := lt_of_block q8
          have hck := rcheck_any m none 0 a a1 w8 F8.small.1 F8.pays F8.small.2.1 F8.small.2.2
          unfold Mg.val at hck
          clear cd t0 t1 t2 tl q4
          go_wp2_with fail
          refine hck.mono ?_
          rintro e w6 ⟨rfl, hb6⟩
          have F6 := F8.below hb6
          have hre := F6.res
          have hbx := F6.box
          clear x0 x1 x2 x3 x4 x5 x6 x7 x8 xl
          by_cases hc : chk m = 0
          · have HR : Hid (rdM s.data.toList = (m, 0)) := (by rw [HF.out]; unfold fin; rw [if_pos hd, if_pos hc] : rdM s.data.toList = (m, 0))
            rw [hc]
            obtain ⟨x0, x1, x2, x3, x4, x5, x6, x7, x8⟩ := cells9 hbx
            have xl := lt_of_block hbx
            obtain ⟨z0, z1, z2, z3, z4', z5, z6, z7', z8⟩ := cells9 hre
            have zf := frozen9 hre
            have zl := lt_of_block hre
            obtain ⟨W9, hW9⟩ : ∃ W9, W9 = sets9 w6 w.heap.size (.int .i64 m.kind) (.string m.group) (.bool m.any) (.slice none m.fl.length 0) (.int .i64 m.pub) (.int .i64 m.seq) (.int .i64 m.hops) (.slice a m.vl.length a1) (.string m.pay) := ⟨_, rfl⟩
            have b9 : W9.heap[w.heap.size]? = _ := (congrArg (fun W : World => W.heap[w.heap.size]?) hW9).trans (sets9_box hre)
            obtain ⟨y0, y1, y2, y3, y4, y5, y6, y7, y8⟩ := cells9 b9
            have o9 : ∀ k, k ≠ w.heap.size → W9.heap[k]? = w6.heap[k]? := fun k hk => by rw [hW9]; exact sets9_other hk
            have n9 : w6.heap.size ≤ W9.heap.size := by rw [hW9, sets9_size]; exact Nat.le_refl _
            have e9 : W9.os = w6.os ∧ W9.tape = w6.tape ∧ W9.output = w6.output := by rw [hW9]; exact sets9_rest
            have H9 : Hid ((((((((((w6.setCell ⟨w.heap.size, 0, none⟩ (.int .i64 m.kind)).setCell ⟨w.heap.size, 1, none⟩ (.string m.group)).setCell ⟨w.heap.size, 2, none⟩ (.bool m.any)).setCell ⟨w.heap.size, 3, none⟩ (.slice none m.fl.length 0)).setCell ⟨w.heap.size, 4, none⟩ (.int .i64 m.pub)).setCell ⟨w.heap.size, 5, none⟩ (.int .i64 m.seq)).setCell ⟨w.heap.size, 6, none⟩ (.int .i64 m.hops)).setCell ⟨w.heap.size, 7, none⟩ (.slice a m.vl.length a1)).setCell ⟨w.heap.size, 8, none⟩ (.string m.pay)) = W9) := hW9.symm
            clear hW9 b9
            have HI : Hid _ := F6.rows (by have := rdM_ok s.data.toList (by rw [HR.out]); rw [HR.out] at this; exact this)
            have hbl := F6.bel
            clear F6 F8 hbx hre q8 hb6 hb8
            go_wp2
            rw [H9.out]
            refine bodyPost_ret (v := .tuple #[m.val none 0 a a1, .int .i64 0]) (by simp [Mg.val, results, Tryd.results15, go_sem, y0, y1, y2, y3, y4, y5, y6, y7, y8]) rfl ⟨none, 0, a, a1, by rw [HR.out]; rfl, ?_, ?_, ?_⟩
            · rw [HR.out]; exact InRow.mv HI.out.1 n9 o9
            · rw [HR.out]; exact InRow.mv HI.out.2 n9 o9
            · exact below_sets hbl n9 e9.1 e9.2.1 e9.2.2 o9
          · have HR : Hid (rdM s.data.toList = (mg0, chk m)) := (by rw [HF.out]; unfold fin; rw [if_pos hd, if_neg hc] : rdM s.data.toList = (mg0, chk m))
            have hne := bne_t (show ¬ (chk m : Int) = 0 by omega)
            obtain ⟨z0, z1, z2, z3, z4', z5, z6, z7', z8⟩ := cells9 hre
            have zf := frozen9 hre
            have zl := lt_of_block hre
            obtain ⟨W9, hW9⟩ : ∃ W9, W9 = sets9 w6 w.heap.size (.int .i64 0) (.string ⟨#[]⟩) (.bool false) (.slice none 0 0) (.int .i64 0) (.int .i64 0) (.int .i64 0) (.slice none 0 0) (.string ⟨#[]⟩) := ⟨_, rfl⟩
            have b9 : W9.heap[w.heap.size]? = _ := (congrArg (fun W : World => W.heap[w.heap.size]?) hW9).trans (sets9_box hre)
            obtain ⟨y0, y1, y2, y3, y4, y5, y6, y7, y8⟩ := cells9 b9
            have o9 : ∀ k, k ≠ w.heap.size → W9.heap[k]? = w6.heap[k]? := fun k hk => by rw [hW9]; exact sets9_other hk
            have n9 : w6.heap.size ≤ W9.heap.size := by rw [hW9, sets9_size]; exact Nat.le_refl _
            have e9 : W9.os = w6.os ∧ W9.tape = w6.tape ∧ W9.output = w6.output := by rw [hW9]; exact sets9_rest
            have H9 : Hid ((((((((((w6.setCell ⟨w.heap.size, 0, none⟩ (.int .i64 0)).setCell ⟨w.heap.size, 1, none⟩ (.string ⟨#[]⟩)).setCell ⟨w.heap.size, 2, none⟩ (.bool false)).setCell ⟨w.heap.size, 3, none⟩ (.slice none 0 0)).setCell ⟨w.heap.size, 4, none⟩ (.int .i64 0)).setCell ⟨w.heap.size, 5, none⟩ (.int .i64 0)).setCell ⟨w.heap.size, 6, none⟩ (.int .i64 0)).setCell ⟨w.heap.size, 7, none⟩ (.slice none 0 0)).setCell ⟨w.heap.size, 8, none⟩ (.string ⟨#[]⟩)) = W9) := hW9.symm
            clear hW9 b9
            have hbl := F6.bel
            clear F6 F8 hbx hre q8 hb6 hb8
            go_wp2
            rw [H9.out]
            refine bodyPost_ret (v := .tuple #[.agg #[.int .i64 0, .string ⟨#[]⟩, .bool false, .slice none 0 0, .int .i64 0, .int .i64 0, .int .i64 0, .slice none 0 0, .string ⟨#[]⟩], .int .i64 (chk m : Int)]) (by simp [results, Tryd.results15, go_sem, y0, y1, y2, y3, y4, y5, y6, y7, y8]) rfl ⟨none, 0, none, 0, by rw [HR.out]; rfl, ?_, ?_, ?_⟩
            · rw [HR.out]; exact in_nil
            · rw [HR.out]; exact in_nil
            · exact below_sets hbl n9 e9.1 e9.2.1 e9.2.2 o9
        · have HR : Hid (rdM s.data.toList = (mg0, dn st9)) := (by rw [HF.out]; unfold fin; rw [if_neg hd] : rdM s.data.toList = (mg0, dn st9))
          have hne := bne_t (show ¬ (dn st9 : Int) = 0 by omega)
          generalize dn st9 = dd at *
          go_wp2_with fail
          refine (cd _).mono ?_
          rintro e w6 ⟨rfl, hb6⟩
          have F6 := F.out.below hb6
          have hre := F6.res
          obtain ⟨z0, z1, z2, z3, z4', z5, z6, z7', z8⟩ := cells9 hre
          have zf := frozen9 hre
          have zl := lt_of_block hre
          obtain ⟨W9, hW9⟩ : ∃ W9, W9 = sets9 w6 w.heap.size (.int .i64 0) (.string ⟨#[]⟩) (.bool false) (.slice none 0 0) (.int .i64 0) (.int .i64 0) (.int .i64 0) (.slice none 0 0) (.string ⟨#[]⟩) := ⟨_, rfl⟩
          have b9 : W9.heap[w.heap.size]? = _ := (congrArg (fun W : World => W.heap[w.heap.size]?) hW9).trans (sets9_box hre)
          obtain ⟨y0, y1, y2, y3, y4, y5, y6, y7, y8⟩ := cells9 b9
          have o9 : ∀ k, k ≠ w.heap.size → W9.heap[k]? = w6.heap[k]? := fun k hk => by rw [hW9]; exact sets9_other hk
          have n9 : w6.heap.size ≤ W9.heap.size := by rw [hW9, sets9_size]; exact Nat.le_refl _
          have e9 : W9.os = w6.os ∧ W9.tape = w6.tape ∧ W9.output = w6.output := by rw [hW9]; exact sets9_rest
          have H9 : Hid ((((((((((w6.setCell ⟨w.heap.size, 0, none⟩ (.int .i64 0)).setCell ⟨w.heap.size, 1, none⟩ (.string ⟨#[]⟩)).setCell ⟨w.heap.size, 2, none⟩ (.bool false)).setCell ⟨w.heap.size, 3, none⟩ (.slice none 0 0)).setCell ⟨w.heap.size, 4, none⟩ (.int .i64 0)).setCell ⟨w.heap.size, 5, none⟩ (.int .i64 0)).setCell ⟨w.heap.size, 6, none⟩ (.int .i64 0)).setCell ⟨w.heap.size, 7, none⟩ (.slice none 0 0)).setCell ⟨w.heap.size, 8, none⟩ (.string ⟨#[]⟩)) = W9) := hW9.symm
          clear hW9 b9
          have hbl := F6.bel
          clear F6 hre hb6 cd t0 t1 t2 tl q4
          go_wp2
          rw [H9.out]
          refine bodyPost_ret (v := .tuple #[.agg #[.int .i64 0, .string ⟨#[]⟩, .bool false, .slice none 0 0, .int .i64 0, .int .i64 0, .int .i64 0, .slice none 0 0, .string ⟨#[]⟩], .int .i64 (dd : Int)]) (by simp [results, Tryd.results15, go_sem, y0, y1, y2, y3, y4, y5, y6, y7, y8]) rfl ⟨none, 0, none, 0, by rw [HR.out]; rfl, ?_, ?_, ?_⟩
          · rw [HR.out]; exact in_nil
          · rw [HR.out]; exact in_nil
          · exact below_sets hbl n9 e9.1 e9.2.1 e9.2.2 o9
set_option maxRecDepth 100000 in
set_option maxHeartbeats 8000000 in
theorem rread_any (s : ByteArray) (w : World) (hs : s.size ≤ 9223372036854775807) :
    Calls Tryd.prog 15 #[.string s] w fun e w' => ∃ fa fc va vc, e = .returned (.tuple #[(rdM s.data.toList).1.val fa fc va vc, .int .i64 ((rdM s.data.toList).2 : Int)]) ∧
      InRow 1 encS okS ByteArray.empty w' fa (rdM s.data.toList).1.fl.length (rdM s.data.toList).1.fl ∧ InRow 2 Vl.cells Vl.ok vl0 w' va (rdM s.data.toList).1.vl.length (rdM s.data.toList).1.vl ∧ Below w.heap.size w w' := by
  have hls : s.data.toList.length = s.size := by simp
  by_cases hbig : 1970 < s.size
  · have HR : Hid (rdM s.data.toList = (mg0, 4)) := (by unfold rdM; rw [if_pos (by omega)] : rdM s.data.toList = (mg0, 4))
    have h1 : (1970 : Int) < (s.size : Int) := by omega
    clear hls
    go_enter Tryd.func15, Tryd.ntmps15
    go_wp2
    refine bodyPost_ret (v := .tuple #[.agg #[.int .i64 0, .string ⟨#[]⟩, .bool false, .slice none 0 0, .int .i64 0, .int .i64 0, .int .i64 0, .slice none 0 0, .string ⟨#[]⟩], .int .i64 4]) (by simp [results, Tryd.results15, go_sem]) rfl ⟨none, 0, none, 0, by rw [HR.out]; rfl, ?_, ?_, ?_⟩
    · rw [HR.out]; exact in_nil
    · rw [HR.out]; exact in_nil
    · exact (Below.refl _ _).alloc (Nat.le_refl _) _
  · have hs2 : s.size ≤ 1970 := by omega
    by_cases k1 : (pI (s.data.toList, 0)).1 = 1
    · exact rread_one s w hs2 k1
    by_cases k5 : (pI (s.data.toList, 0)).1 = 5
    · exact rread_five s w hs2 k5
    by_cases k34 : (pI (s.data.toList, 0)).1 = 3 ∨ (pI (s.data.toList, 0)).1 = 4
    · exact rread_event s w hs2 k34
    · exact rread_other s w hs2 ⟨k1, k5, k34⟩
end Go.Proofs.YtakfinccoffplaaDoor
