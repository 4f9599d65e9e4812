/- The document's Read: one kind of message. -/
import Derived.Test.YtakfinccoffplaaDoorJoinMsRef
import Derived.Deep.CutBlock
import Derived.Deep.DeepCutAuto
import Derived.Deep.LoopGhost
namespace Go.Proofs.YtakfinccoffplaaDoor
open Go.ChangeShapes Go.WideShapes Go.ChangeAt Go.RowKit
set_option linter.unusedVariables false

set_option maxRecDepth 100000 in
set_option maxHeartbeats 8000000 in
theorem rread_one (s : ByteArray) (w : World) (hs2 : s.size ≤ 1970) (hkd : (pI (s.data.toList, 0)).1 = 1) :
    Calls Tryd.prog 15 #[.string s] w fun e w' => ∃ fa fc va vc, e = .returned (.tuple #[(rdM s.data.toList).1.val fa fc va vc, .int .i64 ((rdM s.data.toList).2 : Int)]) ∧
      InRow 1 encS okS ByteArray.empty w' fa (rdM s.data.toList).1.fl.length (rdM s.data.toList).1.fl ∧ InRow 2 Vl.cells Vl.ok vl0 w' va (rdM s.data.toList).1.vl.length (rdM s.data.toList).1.vl ∧ Below w.heap.size w w' := by
  have hls : s.data.toList.length = s.size := by simp
  have hbig : ¬ 1970 < s.size := by omega
  have h1 : ¬ (1970 : Int) < (s.size : Int) := by omega
  obtain ⟨W1, hW1⟩ : ∃ W1, W1 = w.alloc (.cells #[.int .i64 0, .string ⟨#[]⟩, .bool false, .slice none 0 0, .int .i64 0, .int .i64 0, .int .i64 0, .slice none 0 0, .string ⟨#[]⟩] 37) := ⟨_, rfl⟩
  have s1 : W1.heap.size = w.heap.size + 1 := by rw [hW1]; simp
  have b1 : Below w.heap.size w W1 := by rw [hW1]; exact below1 _ _
  have r1 : W1.heap[w.heap.size]? = some (.cells #[.int .i64 0, .string ⟨#[]⟩, .bool false, .slice none 0 0, .int .i64 0, .int .i64 0, .int .i64 0, .slice none 0 0, .string ⟨#[]⟩] 37 (0, 0)) := by rw [hW1]; exact heap_alloc_new w _
  have HM : Hid (rdM s.data.toList = finO (rdK (pI (s.data.toList, 0)).1 (pT 40 (pI (s.data.toList, 0)).2).1 (pT 40 (pI (s.data.toList, 0)).2).2)) := (by unfold rdM; rw [if_neg (by omega)]; rfl : rdM s.data.toList = _)
  clear hls hbig
  obtain ⟨p1, hp1, ci⟩ := cI s 0 (s.data.toList, 0) ⟨Nat.zero_le _, rfl⟩ (by omega)
  obtain ⟨p2, hp2, cx⟩ := cT s p1 _ hp1 (by omega) 40 (by omega)
  generalize hk : (pI (s.data.toList, 0)).1 = k at *
  generalize hst1 : (pI (s.data.toList, 0)).2 = st1 at *
  generalize hg : (pT 40 st1).1 = g at *
  generalize hst2 : (pT 40 st1).2 = st2 at *
  have hgs : g.size ≤ 9223372036854775807 := by
    rw [← hg]
    unfold pT
    split
    · split
      · split
        · split
          · rw [ba_szL, List.length_take]; omega
          · exact Nat.zero_le _
        · exact Nat.zero_le _
      · exact Nat.zero_le _
    · exact Nat.zero_le _
  clear hk hst1 hg hst2
  have HKD : Hid (k = 1) := hkd
  clear hkd
  generalize hc1 : st1.2 = c1 at *
  generalize hc2 : st2.2 = c2 at *
  clear hc1 hp1
  have HC2 : Hid (st2.2 = c2) := hc2
  clear hc2
  go_enter Tryd.func15, Tryd.ntmps15
  go_wp2_with fail
  rw [← hW1]
  refine (copen_any s _).mono ?_
  rintro e w2 ⟨rfl, hb2⟩
  go_wp2_with fail
  refine (ci _).mono ?_
  rintro e w3 ⟨rfl, hb3⟩
  have s3 : W1.heap.size ≤ w3.heap.size := Nat.le_trans hb2.size hb3.size
  have b13 : Below W1.heap.size W1 w3 := hb2.trans (hb3.mono hb2.size)
  obtain ⟨W4, hW4⟩ : ∃ W4, W4 = w3.alloc (.cells #[.string s, .int .i64 p1, .int .i64 c1] 78) := ⟨_, rfl⟩
  have b4 : Below w3.heap.size w3 W4 := by rw [hW4]; exact below1 _ _
  have q4 : W4.heap[w3.heap.size]? = some (.cells #[.string s, .int .i64 p1, .int .i64 c1] 78 (0, 0)) := by rw [hW4]; exact heap_alloc_new w3 _
  obtain ⟨t0, t1, t2⟩ := three q4
  have tl := lt_of_block q4
  go_upto_region 4 with fail
  rw [← hW4]
  clear hW4
  go_wp2_with fail
  refine (cx _).mono ?_
  rintro e w5 ⟨rfl, hb5⟩
  have q5 := (hb5.block _ tl).trans q4
  obtain ⟨u0, u1, u2⟩ := three q5
  have uf := frozen9 q5
  have ul := lt_of_block q5
  obtain ⟨z4, hz4⟩ : ∃ z4, z4 = w3.heap.size := ⟨_, rfl⟩
  rw [← hz4] at q5 u0 u1 u2 uf ul ⊢
  have HZ4 : Hid (z4 = w3.heap.size) := hz4
  clear hz4
  obtain ⟨W6, hW6⟩ : ∃ W6, W6 = ((w5.setCell ⟨z4, 0, none⟩ (.string s)).setCell ⟨z4, 1, none⟩ (.int .i64 p2)).setCell ⟨z4, 2, none⟩ (.int .i64 c2) := ⟨_, rfl⟩
  have q6 : W6.heap[z4]? = some (.cells #[.string s, .int .i64 p2, .int .i64 c2] 78 (0, 0)) := by
    rw [hW6]; simpa using box_set (i := 2) (box_set (i := 1) (box_set (i := 0) q5 (.string s)) (.int .i64 p2)) (.int .i64 c2)
  have o6 : ∀ j, j ≠ z4 → W6.heap[j]? = w5.heap[j]? := fun j hj => by rw [hW6, set_other hj, set_other hj, set_other hj]
  have N6 : Hid (W6.heap.size = w5.heap.size) := (by rw [hW6]; simp [World.setCell] : W6.heap.size = w5.heap.size)
  have e6 : W6.os = w5.os ∧ W6.tape = w5.tape ∧ W6.output = w5.output := by rw [hW6]; exact ⟨rfl, rfl, rfl⟩
  go_upto_region 5 with fail
  rw [← hW6]
  clear hW6 u0 u1 u2 uf ul q5 t0 t1 t2
  obtain ⟨W7, hW7⟩ : ∃ W7, W7 = W6.alloc (.cells #[.int .i64 k, .string g, .bool false, .slice none 0 0, .int .i64 0, .int .i64 0, .int .i64 0, .slice none 0 0, .string ⟨#[]⟩] 37) := ⟨_, rfl⟩
  have x7 : W7.heap[W6.heap.size]? = some (.cells #[.int .i64 k, .string g, .bool false, .slice none 0 0, .int .i64 0, .int .i64 0, .int .i64 0, .slice none 0 0, .string ⟨#[]⟩] 37 (0, 0)) := by rw [hW7]; exact heap_alloc_new W6 _
  have o7 : ∀ j, j < W6.heap.size → W7.heap[j]? = W6.heap[j]? := fun j hj => by rw [hW7]; exact Below.heap_alloc _ _ _ hj
  have N7 : Hid (W7.heap.size = W6.heap.size + 1) := (by rw [hW7]; simp : W7.heap.size = W6.heap.size + 1)
  have e7 : W7.os = W6.os ∧ W7.tape = W6.tape ∧ W7.output = W6.output := by rw [hW7]; exact ⟨rfl, rfl, rfl⟩
  go_upto_region 6 with fail
  rw [← hW7]
  clear hW7
  obtain ⟨z7, hz7⟩ : ∃ z7, z7 = W6.heap.size := ⟨_, rfl⟩
  rw [← hz7] at x7 o7 ⊢
  have HZ7 : Hid (z7 = W6.heap.size) := hz7
  clear hz7
  have s45 := hb5.size
  have s34 := b4.size
  have F7 : Hid (Fs w W7 z4 z7 s p2 c2 ⟨k, g, false, [], 0, 0, 0, [], ⟨#[]⟩⟩ none 0 none 0) := by
    have hz4 := HZ4.out
    have hz7 := HZ7.out
    have n6 := N6.out
    have n7 := N7.out
    have hold : ∀ j, j < w3.heap.size → W7.heap[j]? = w3.heap[j]? := fun j hj => by
      rw [o7 j (by omega), o6 j (by omega), hb5.block j (by omega)]; exact b4.block j hj
    refine ⟨(hold _ (by omega)).trans ((b13.block _ (by omega)).trans r1), (o7 z4 (by omega)).trans q6, x7, World.ownsRow_nil _ _ _ _, World.ownsRow_nil _ _ _ _, fun b hb => by simp [Value.ownBlock] at hb, by omega, by omega, ?_, by omega, ⟨hgs, by simp, by simp⟩, by show ByteArray.size ⟨#[]⟩ ≤ _; decide⟩
    refine ⟨?_, ?_, ?_, by omega, fun j hj => (hold j (by omega)).trans ((b13.block j (by omega)).trans (b1.block j hj))⟩
    · exact e7.1.trans (e6.1.trans (hb5.os.trans (b4.os.trans (b13.os.trans b1.os))))
    · exact e7.2.1.trans (e6.2.1.trans (hb5.tape.trans (b4.tape.trans (b13.tape.trans b1.tape))))
    · exact e7.2.2.trans (e6.2.2.trans (hb5.output.trans (b4.output.trans (b13.output.trans b1.output))))
  clear hb2 hb3 hb5 b4 b13 s3 q4 tl HZ4 q6 o6 N6 e6 x7 o7 N7 e7 HZ7 s45 s34 r1 s1 b1 hW1 ci cx
  have hkd := HKD.out
  clear HKD
  have k1 := hkd
  clear hkd
  have q1 := beq_t k1
  have q3 : ¬ 3 ≤ k := by omega
  have q33 := beq_f (show ¬ k = 3 by omega)
  have q44 := beq_f (show ¬ k = 4 by omega)
  obtain ⟨p3, hp3, ci3⟩ := cI s p2 st2 hp2 (by omega)
  rw [HC2.out] at ci3
  have hE := pI_err st2
  have hK : rdK k g st2 = if (pI st2).1 < -1 ∨ 16 < (pI st2).1 then none else some (⟨k, g, decide ((pI st2).1 = -1), (pTs (pI st2).1.toNat (pI st2).2).1, 0, 0, 0, [], ⟨#[]⟩⟩, (pTs (pI st2).1.toNat (pI st2).2).2) := by unfold rdK; rw [if_pos k1, k1]; rfl
  rw [hK] at HM
  generalize (pI st2).1 = n at *
  generalize (pI st2).2 = st3 at *
  generalize hc3 : st3.2 = c3 at *
  have HC3 : Hid (st3.2 = c3) := hc3
  clear hc3 hK hp2 HC2 k1
  obtain ⟨t0, t1, t2⟩ := three F7.out.cur
  have tl := lt_of_block F7.out.cur
  go_wp2_with fail
  refine (ci3 _).mono ?_
  rintro e w8 ⟨rfl, hb8⟩
  have F8 : Hid (Fs w w8 z4 z7 s p2 c2 ⟨k, g, false, [], 0, 0, 0, [], ⟨#[]⟩⟩ none 0 none 0) := F7.out.below hb8
  clear t0 t1 t2 tl hb8 F7
  obtain ⟨u0, u1, u2⟩ := three F8.out.cur
  have uf := frozen9 F8.out.cur
  have ul := lt_of_block F8.out.cur
  obtain ⟨W9, hW9⟩ : ∃ W9, W9 = ((w8.setCell ⟨z4, 0, none⟩ (.string s)).setCell ⟨z4, 1, none⟩ (.int .i64 p3)).setCell ⟨z4, 2, none⟩ (.int .i64 c3) := ⟨_, rfl⟩
  have F9 : Hid (Fs w W9 z4 z7 s p3 c3 ⟨k, g, false, [], 0, 0, 0, [], ⟨#[]⟩⟩ none 0 none 0) := (by rw [hW9]; exact F8.out.setCur : Fs w W9 z4 z7 s p3 c3 ⟨k, g, false, [], 0, 0, 0, [], ⟨#[]⟩⟩ none 0 none 0)
  go_upto_region 9 with fail
  rw [← hW9]
  clear hW9 u0 u1 u2 uf ul F8 ci3
  have g2 : W9.cell? ⟨z4, 2, none⟩ = some (.int .i64 c3) := blk_cell (j := 2) F9.out.cur (by simp)
  have gl := lt_of_block F9.out.cur
  by_cases hn : n < -1 ∨ 16 < n
  · rw [if_pos hn] at HM
    have HR : Hid (rdM s.data.toList = (mg0, 11)) := (HM.out : rdM s.data.toList = finO none)
    have hc0 := beq_t (show (c3 : Int) = 0 by
      by_cases h0 : c3 = 0
      · omega
      · have := hE h0; omega)
    have hcase : n < -1 ∨ (¬ n < -1 ∧ 16 < n) := by omega
    have hre := F9.out.res
    obtain ⟨z0, z1, z2, z3, z4', z5, z6, z7', z8⟩ := cells9 hre
    have zf := frozen9 hre
    have zl := lt_of_block hre
    obtain ⟨V9, hV9⟩ : ∃ V9, V9 = sets9 W9 w.heap.size (.int .i64 0) (.string ⟨#[]⟩) (.bool false) (.slice none 0 0) (.int .i64 0) (.int .i64 0) (.int .i64 0) (.slice none 0 0) (.string ⟨#[]⟩) := ⟨_, rfl⟩
    have b9 : V9.heap[w.heap.size]? = _ := (congrArg (fun W : World => W.heap[w.heap.size]?) hV9).trans (sets9_box hre)
    obtain ⟨y0, y1, y2, y3, y4, y5, y6, y7, y8⟩ := cells9 b9
    have o9 : ∀ k, k ≠ w.heap.size → V9.heap[k]? = W9.heap[k]? := fun k hk => by rw [hV9]; exact sets9_other hk
    have n9 : W9.heap.size ≤ V9.heap.size := by rw [hV9, sets9_size]; exact Nat.le_refl _
    have e9 : V9.os = W9.os ∧ V9.tape = W9.tape ∧ V9.output = W9.output := by rw [hV9]; exact sets9_rest
    have H9 : Hid ((((((((((W9.setCell ⟨w.heap.size, 0, none⟩ (.int .i64 0)).setCell ⟨w.heap.size, 1, none⟩ (.string ⟨#[]⟩)).setCell ⟨w.heap.size, 2, none⟩ (.bool false)).setCell ⟨w.heap.size, 3, none⟩ (.slice none 0 0)).setCell ⟨w.heap.size, 4, none⟩ (.int .i64 0)).setCell ⟨w.heap.size, 5, none⟩ (.int .i64 0)).setCell ⟨w.heap.size, 6, none⟩ (.int .i64 0)).setCell ⟨w.heap.size, 7, none⟩ (.slice none 0 0)).setCell ⟨w.heap.size, 8, none⟩ (.string ⟨#[]⟩)) = V9) := hV9.symm
    clear hV9 b9
    have hbl := F9.out.bel
    clear hn hE HM hre F9
    rcases hcase with h1' | ⟨h1', h2'⟩
    all_goals
      go_wp2
      rw [H9.out]
      refine bodyPost_ret (v := .tuple #[.agg #[.int .i64 0, .string ⟨#[]⟩, .bool false, .slice none 0 0, .int .i64 0, .int .i64 0, .int .i64 0, .slice none 0 0, .string ⟨#[]⟩], .int .i64 11]) (by simp [results, Tryd.results15, go_sem, y0, y1, y2, y3, y4, y5, y6, y7, y8]) rfl ?_
      have hin1 : InRow 1 encS okS ByteArray.empty V9 none (rdM s.data.toList).1.fl.length (rdM s.data.toList).1.fl := by rw [HR.out]; exact in_nil
      have hin2 : InRow 2 Vl.cells Vl.ok vl0 V9 none (rdM s.data.toList).1.vl.length (rdM s.data.toList).1.vl := by rw [HR.out]; exact in_nil
      have hbw := below_sets hbl n9 e9.1 e9.2.1 e9.2.2 o9
      first
        | exact ⟨none, 0, none, 0, by rw [HR.out]; rfl, hin1, hin2, hbw⟩
        | exact ⟨none, 0, none, ⟨0, by rw [HR.out]; rfl⟩, hin1, hin2, hbw⟩
  · rw [if_neg hn] at HM
    have hcase : ((c3 : Int) == 0) = false ∨ (((c3 : Int) == 0) = true ∧ ¬ n < -1 ∧ ¬ 16 < n) := by
      by_cases h0 : c3 = 0
      · exact .inr ⟨beq_t (by omega), by omega, by omega⟩
      · exact .inl (beq_f (by omega))
    have hn16 : n ≤ 16 := by omega
    clear hn hE
    go_cut [64] (fun v wx => v = .bool false ∧ W9 = wx)
    case first =>
      rcases hcase with h0 | ⟨h0, h1', h2'⟩
      all_goals
        go_wp2
        go_meet
        exact ⟨rfl, rfl⟩
    case rest =>
      obtain ⟨rfl, hwx⟩ := hcut
      subst hwx
      clear hcase g2 gl
      obtain ⟨i0, hi0, hz0, hz1, hz2⟩ := info_parts Tryd.infoSt
      have HD : Hid (decide (n = -1) = (n == -1)) := by show decide (n = -1) = (n == -1); by_cases e : n = -1 <;> simp [e]
      obtain ⟨any, ha⟩ : ∃ any, (n == -1) = any := ⟨_, rfl⟩
      rw [HD.out, ha] at HM
      clear HD
      have v2 : W9.cell? ⟨z7, 2, none⟩ = some (.bool false) := blk_cell (j := 2) F9.out.box (by simp)
      have vf := frozen9 F9.out.box
      have vl := lt_of_block F9.out.box
      obtain ⟨W10, hW10⟩ : ∃ W10, W10 = W9.setCell ⟨z7, 2, none⟩ (.bool any) := ⟨_, rfl⟩
      have F10 : Hid (Fs w W10 z4 z7 s p3 c3 ⟨k, g, any, [], 0, 0, 0, [], ⟨#[]⟩⟩ none 0 none 0) := (by
        rw [hW10]
        exact F9.out.setBox 2 (.bool any) ⟨k, g, any, [], 0, 0, 0, [], ⟨#[]⟩⟩ rfl rfl rfl (by show ByteArray.size ⟨#[]⟩ ≤ _; decide) (by simpa using box_set (i := 2) F9.out.box (.bool any)) : Fs w W10 z4 z7 s p3 c3 ⟨k, g, any, [], 0, 0, 0, [], ⟨#[]⟩⟩ none 0 none 0)
      go_upto_region 12 with fail
      rw [← hW10]
      clear hW10 v2 vf vl F9 ha
      go_wp2
      go_loopw [9] (fun x wr => ∃ (i a1 : Nat) (a : Option Addr) (p : Nat) (cc : Nat), x = .int .i64 i ∧ i ≤ n.toNat ∧ Hid (Pl15 s p (pTs i st3).2 ∧ (pTs i st3).2.2 = cc ∧ Fs w wr z4 z7 s p cc ⟨k, g, any, (pTs i st3).1, 0, 0, 0, [], ⟨#[]⟩⟩ a a1 none 0)) (fun x _ => n.toNat - (intOf x).toNat)
      case atStart => exact ⟨0, 0, none, p3, c3, rfl, Nat.zero_le _, hp3, HC3.out, F10.out⟩
      case round =>
        obtain ⟨i, a1, a, p, cc, rfl, hin, R⟩ := hrel
        by_cases hlt : (i : Int) < n
        · obtain ⟨p', hp', ct⟩ := cT s p _ R.out.1 (by omega) 1970 (by omega)
          rw [R.out.2.1] at ct
          have HT : Hid ((pTs (i + 1) st3).1 = (pTs i st3).1 ++ [(pT 1970 (pTs i st3).2).1] ∧ (pTs (i + 1) st3).2 = (pT 1970 (pTs i st3).2).2) := ⟨rfl, rfl⟩
          have F := R.out.2.2
          have hlen := pTs_len i st3
          generalize (pT 1970 (pTs i st3).2).1 = t at *
          generalize (pT 1970 (pTs i st3).2).2 = st5 at *
          generalize (pTs i st3).1 = fs at *
          have HLen : Hid (fs.length = i) := hlen
          have hfl16 : fs.length ≤ 100 := by omega
          clear hlen
          generalize hc5 : st5.2 = c5 at *
          have HC5 : Hid (st5.2 = c5) := hc5
          clear hc5 R
          obtain ⟨t0, t1, t2⟩ := three F.cur
          have tl := lt_of_block F.cur
          go_wp2_with fail
          refine (ct _).mono ?_
          rintro e w2 ⟨rfl, hb2⟩
          obtain ⟨W3, hW3⟩ : ∃ W3, W3 = w2.alloc (.cells #[.string s, .int .i64 p', .int .i64 c5] 78) := ⟨_, rfl⟩
          have F3 : Hid (Fs w W3 z4 z7 s p cc ⟨k, g, any, fs, 0, 0, 0, [], ⟨#[]⟩⟩ a a1 none 0) := (by rw [hW3]; exact (F.below hb2).below (below1 _ _) : Fs w W3 z4 z7 s p cc ⟨k, g, any, fs, 0, 0, 0, [], ⟨#[]⟩⟩ a a1 none 0)
          have q3' : W3.heap[w2.heap.size]? = some (.cells #[.string s, .int .i64 p', .int .i64 c5] 78 (0, 0)) := by rw [hW3]; exact heap_alloc_new w2 _
          go_upto_region 16 with fail
          rw [← hW3]
          clear hW3 t0 t1 t2 tl F hb2 ct
          obtain ⟨t0, t1, t2⟩ := three q3'
          have tl := lt_of_block q3'
          obtain ⟨u0, u1, u2⟩ := three F3.out.cur
          have uf := frozen9 F3.out.cur
          have ul := lt_of_block F3.out.cur
          obtain ⟨W4, hW4⟩ : ∃ W4, W4 = ((W3.setCell ⟨z4, 0, none⟩ (.string s)).setCell ⟨z4, 1, none⟩ (.int .i64 p')).setCell ⟨z4, 2, none⟩ (.int .i64 c5) := ⟨_, rfl⟩
          have F4 : Hid (Fs w W4 z4 z7 s p' c5 ⟨k, g, any, fs, 0, 0, 0, [], ⟨#[]⟩⟩ a a1 none 0) := (by rw [hW4]; exact F3.out.setCur : Fs w W4 z4 z7 s p' c5 ⟨k, g, any, fs, 0, 0, 0, [], ⟨#[]⟩⟩ a a1 none 0)
          go_upto_region 17 with fail
          rw [← hW4]
          clear hW4 t0 t1 t2 tl u0 u1 u2 uf ul q3' F3
          have v3 : W4.cell? ⟨z7, 3, none⟩ = some (.slice a fs.length a1) := blk_cell (j := 3) F4.out.box (by simp)
          have vl := lt_of_block F4.out.box
          have hB4 := F4.out.size
          have hrow : W4.ownsRow (z7 + 1) 9 1 (.slice a fs.length a1) fs.length (fs.map Value.string) := F4.out.rf
          go_wp2_with (at_builtin; refine wpList_own_append _ rfl _ _ 22 22 rfl (z7 + 1) 9 i0 (.string ByteArray.empty) 16 Tryd.underlying22 hi0 hz0 hz1 hz2 rfl _ _ _ rfl (hrow.alloc _) _ 1 [.string t] rfl (src_str W4 t _ rfl) ?c3 ?c4 ?c5 ?_)
          case c3 => unfold maxLen; omega
          case c4 => omega
          case c5 => simp; omega
          intro v' w6 hap
          obtain ⟨a', d', hv'⟩ := hap.shape
          subst hv'
          have F6 : Hid (Fs w (w6.setCell ⟨z7, 3, none⟩ (.slice a' (fs.length + 1) d')) z4 z7 s p' c5 ⟨k, g, any, fs ++ [t], 0, 0, 0, [], ⟨#[]⟩⟩ a' d' none 0) := F4.out.stepF hap (by show fs.length + 1 ≤ _; omega)
          have hb6 : w6.heap[z7]? = some _ := (hap.grown.block z7 (by simp; omega) (fun e => by have := (hrow.lt z7 e.symm).1; omega)).trans ((Below.heap_alloc W4 _ z7 vl).trans F4.out.box)
          have x3 : w6.cell? ⟨z7, 3, none⟩ = some _ := blk_cell (j := 3) hb6 (by simp)
          have xf := frozen9 hb6
          have xl := lt_of_block hb6
          clear hap hb6 v3 vl F4 hrow hB4
          go_wp2
          go_roundw
          case rel => exact ⟨i + 1, d', a', p', c5, by go_num, by omega, by rw [HT.out.2]; exact hp', by rw [HT.out.2]; exact HC5.out, by rw [HT.out.1]; exact F6.out⟩
          case measure => simp [intOf]; omega
        · obtain rfl : i = n.toNat := by omega
          obtain ⟨m, hm⟩ : ∃ m : Mg, m = ⟨k, g, any, (pTs n.toNat st3).1, 0, 0, 0, [], ⟨#[]⟩⟩ := ⟨_, rfl⟩
          obtain ⟨st4, hst4⟩ : ∃ st4, st4 = (pTs n.toNat st3).2 := ⟨_, rfl⟩
          have HF : Hid (rdM s.data.toList = fin m st4) := (by rw [HM.out, hm, hst4]; rfl : rdM s.data.toList = fin m st4)
          have F : Hid (Fs w wr z4 z7 s p cc m a a1 none 0) := (by rw [hm]; exact R.out.2.2 : Fs w wr z4 z7 s p cc m a a1 none 0)
          have hpl : Pl15 s p st4 := by rw [hst4]; exact R.out.1
          have HCc : Hid (st4.2 = cc) := (by rw [hst4]; exact R.out.2.1 : st4.2 = cc)
          clear R HM hm hst4
          have cd := cD s p st4 hpl
          have hfd := field2 s p
          rw [HCc.out] at cd
          have q4 := F.out.cur
          obtain ⟨t0, t1, t2⟩ := three q4
          have tl := lt_of_block q4
          clear hpl
          by_cases hd : dn st4 = 0
          · rw [hd] at cd
            go_wp2_with fail
            refine (cd _).mono ?_
            rintro e w8 ⟨rfl, hb8⟩
            have F8 := F.out.below hb8
            have q8 := F8.box
            obtain ⟨x0, x1, x2, x3, x4, x5, x6, x7, x8⟩ := cells9 q8
            have xl := lt_of_block q8
            have hck := rcheck_any m a a1 none 0 w8 F8.small.1 F8.pays F8.small.2.1 F8.small.2.2
            unfold Mg.val at hck
            clear cd t0 t1 t2 tl q4
            go_wp2_with fail
            refine hck.mono ?_
            rintro e w6 ⟨rfl, hb6⟩
            have F6 := F8.below hb6
            have hre := F6.res
            have hbx := F6.box
            clear x0 x1 x2 x3 x4 x5 x6 x7 x8 xl
            by_cases hc : chk m = 0
            · have HR : Hid (rdM s.data.toList = (m, 0)) := (by rw [HF.out]; unfold fin; rw [if_pos hd, if_pos hc] : rdM s.data.toList = (m, 0))
              rw [hc]
              obtain ⟨x0, x1, x2, x3, x4, x5, x6, x7, x8⟩ := cells9 hbx
              have xl := lt_of_block hbx
              obtain ⟨z0, z1, z2, z3, z4', z5, z6, z7', z8⟩ := cells9 hre
              have zf := frozen9 hre
              have zl := lt_of_block hre
              obtain ⟨W9, hW9⟩ : ∃ W9, W9 = sets9 w6 w.heap.size (.int .i64 m.kind) (.string m.group) (.bool m.any) (.slice a m.fl.length a1) (.int .i64 m.pub) (.int .i64 m.seq) (.int .i64 m.hops) (.slice none m.vl.length 0) (.string m.pay) := ⟨_, rfl⟩
              have b9 : W9.heap[w.heap.size]? = _ := (congrArg (fun W : World => W.heap[w.heap.size]?) hW9).trans (sets9_box hre)
              obtain ⟨y0, y1, y2, y3, y4, y5, y6, y7, y8⟩ := cells9 b9
              have o9 : ∀ k, k ≠ w.heap.size → W9.heap[k]? = w6.heap[k]? := fun k hk => by rw [hW9]; exact sets9_other hk
              have n9 : w6.heap.size ≤ W9.heap.size := by rw [hW9, sets9_size]; exact Nat.le_refl _
              have e9 : W9.os = w6.os ∧ W9.tape = w6.tape ∧ W9.output = w6.output := by rw [hW9]; exact sets9_rest
              have H9 : Hid ((((((((((w6.setCell ⟨w.heap.size, 0, none⟩ (.int .i64 m.kind)).setCell ⟨w.heap.size, 1, none⟩ (.string m.group)).setCell ⟨w.heap.size, 2, none⟩ (.bool m.any)).setCell ⟨w.heap.size, 3, none⟩ (.slice a m.fl.length a1)).setCell ⟨w.heap.size, 4, none⟩ (.int .i64 m.pub)).setCell ⟨w.heap.size, 5, none⟩ (.int .i64 m.seq)).setCell ⟨w.heap.size, 6, none⟩ (.int .i64 m.hops)).setCell ⟨w.heap.size, 7, none⟩ (.slice none m.vl.length 0)).setCell ⟨w.heap.size, 8, none⟩ (.string m.pay)) = W9) := hW9.symm
              clear hW9 b9
              have HI : Hid _ := F6.rows (by have := rdM_ok s.data.toList (by rw [HR.out]); rw [HR.out] at this; exact this)
              have hbl := F6.bel
              clear F6 F8 hbx hre q8 hb6 hb8
              go_wp2
              rw [H9.out]
              refine bodyPost_ret (v := .tuple #[m.val a a1 none 0, .int .i64 0]) (by simp [Mg.val, results, Tryd.results15, go_sem, y0, y1, y2, y3, y4, y5, y6, y7, y8]) rfl ⟨a, a1, none, 0, by rw [HR.out]; rfl, ?_, ?_, ?_⟩
              · rw [HR.out]; exact InRow.mv HI.out.1 n9 o9
              · rw [HR.out]; exact InRow.mv HI.out.2 n9 o9
              · exact below_sets hbl n9 e9.1 e9.2.1 e9.2.2 o9
            · have HR : Hid (rdM s.data.toList = (mg0, chk m)) := (by rw [HF.out]; unfold fin; rw [if_pos hd, if_neg hc] : rdM s.data.toList = (mg0, chk m))
              have hne := bne_t (show ¬ (chk m : Int) = 0 by omega)
              obtain ⟨z0, z1, z2, z3, z4', z5, z6, z7', z8⟩ := cells9 hre
              have zf := frozen9 hre
              have zl := lt_of_block hre
              obtain ⟨W9, hW9⟩ : ∃ W9, W9 = sets9 w6 w.heap.size (.int .i64 0) (.string ⟨#[]⟩) (.bool false) (.slice none 0 0) (.int .i64 0) (.int .i64 0) (.int .i64 0) (.slice none 0 0) (.string ⟨#[]⟩) := ⟨_, rfl⟩
              have b9 : W9.heap[w.heap.size]? = _ := (congrArg (fun W : World => W.heap[w.heap.size]?) hW9).trans (sets9_box hre)
              obtain ⟨y0, y1, y2, y3, y4, y5, y6, y7, y8⟩ := cells9 b9
              have o9 : ∀ k, k ≠ w.heap.size → W9.heap[k]? = w6.heap[k]? := fun k hk => by rw [hW9]; exact sets9_other hk
              have n9 : w6.heap.size ≤ W9.heap.size := by rw [hW9, sets9_size]; exact Nat.le_refl _
              have e9 : W9.os = w6.os ∧ W9.tape = w6.tape ∧ W9.output = w6.output := by rw [hW9]; exact sets9_rest
              have H9 : Hid ((((((((((w6.setCell ⟨w.heap.size, 0, none⟩ (.int .i64 0)).setCell ⟨w.heap.size, 1, none⟩ (.string ⟨#[]⟩)).setCell ⟨w.heap.size, 2, none⟩ (.bool false)).setCell ⟨w.heap.size, 3, none⟩ (.slice none 0 0)).setCell ⟨w.heap.size, 4, none⟩ (.int .i64 0)).setCell ⟨w.heap.size, 5, none⟩ (.int .i64 0)).setCell ⟨w.heap.size, 6, none⟩ (.int .i64 0)).setCell ⟨w.heap.size, 7, none⟩ (.slice none 0 0)).setCell ⟨w.heap.size, 8, none⟩ (.string ⟨#[]⟩)) = W9) := hW9.symm
              clear hW9 b9
              have hbl := F6.bel
              clear F6 F8 hbx hre q8 hb6 hb8
              go_wp2
              rw [H9.out]
              refine bodyPost_ret (v := .tuple #[.agg #[.int .i64 0, .string ⟨#[]⟩, .bool false, .slice none 0 0, .int .i64 0, .int .i64 0, .int .i64 0, .slice none 0 0, .string ⟨#[]⟩], .int .i64 (chk m : Int)]) (by simp [results, Tryd.results15, go_sem, y0, y1, y2, y3, y4, y5, y6, y7, y8]) rfl ⟨none, 0, none, 0, by rw [HR.out]; rfl, ?_, ?_, ?_⟩
              · rw [HR.out]; exact in_nil
              · rw [HR.out]; exact in_nil
              · exact below_sets hbl n9 e9.1 e9.2.1 e9.2.2 o9
          · have HR : Hid (rdM s.data.toList = (mg0, dn st4)) := (by rw [HF.out]; unfold fin; rw [if_neg hd] : rdM s.data.toList = (mg0, dn st4))
            have hne := bne_t (show ¬ (dn st4 : Int) = 0 by omega)
            generalize dn st4 = dd at *
            go_wp2_with fail
            refine (cd _).mono ?_
            rintro e w6 ⟨rfl, hb6⟩
            have F6 := F.out.below hb6
            have hre := F6.res
            obtain ⟨z0, z1, z2, z3, z4', z5, z6, z7', z8⟩ := cells9 hre
            have zf := frozen9 hre
            have zl := lt_of_block hre
            obtain ⟨W9, hW9⟩ : ∃ W9, W9 = sets9 w6 w.heap.size (.int .i64 0) (.string ⟨#[]⟩) (.bool false) (.slice none 0 0) (.int .i64 0) (.int .i64 0) (.int .i64 0) (.slice none 0 0) (.string ⟨#[]⟩) := ⟨_, rfl⟩
            have b9 : W9.heap[w.heap.size]? = _ := (congrArg (fun W : World => W.heap[w.heap.size]?) hW9).trans (sets9_box hre)
            obtain ⟨y0, y1, y2, y3, y4, y5, y6, y7, y8⟩ := cells9 b9
            have o9 : ∀ k, k ≠ w.heap.size → W9.heap[k]? = w6.heap[k]? := fun k hk => by rw [hW9]; exact sets9_other hk
            have n9 : w6.heap.size ≤ W9.heap.size := by rw [hW9, sets9_size]; exact Nat.le_refl _
            have e9 : W9.os = w6.os ∧ W9.tape = w6.tape ∧ W9.output = w6.output := by rw [hW9]; exact sets9_rest
            have H9 : Hid ((((((((((w6.setCell ⟨w.heap.size, 0, none⟩ (.int .i64 0)).setCell ⟨w.heap.size, 1, none⟩ (.string ⟨#[]⟩)).setCell ⟨w.heap.size, 2, none⟩ (.bool false)).setCell ⟨w.heap.size, 3, none⟩ (.slice none 0 0)).setCell ⟨w.heap.size, 4, none⟩ (.int .i64 0)).setCell ⟨w.heap.size, 5, none⟩ (.int .i64 0)).setCell ⟨w.heap.size, 6, none⟩ (.int .i64 0)).setCell ⟨w.heap.size, 7, none⟩ (.slice none 0 0)).setCell ⟨w.heap.size, 8, none⟩ (.string ⟨#[]⟩)) = W9) := hW9.symm
            clear hW9 b9
            have hbl := F6.bel
            clear F6 hre hb6 cd t0 t1 t2 tl q4
            go_wp2
            rw [H9.out]
            refine bodyPost_ret (v := .tuple #[.agg #[.int .i64 0, .string ⟨#[]⟩, .bool false, .slice none 0 0, .int .i64 0, .int .i64 0, .int .i64 0, .slice none 0 0, .string ⟨#[]⟩], .int .i64 (dd : Int)]) (by simp [results, Tryd.results15, go_sem, y0, y1, y2, y3, y4, y5, y6, y7, y8]) rfl ⟨none, 0, none, 0, by rw [HR.out]; rfl, ?_, ?_, ?_⟩
            · rw [HR.out]; exact in_nil
            · rw [HR.out]; exact in_nil
            · exact below_sets hbl n9 e9.1 e9.2.1 e9.2.2 o9
set_option maxRecDepth 100000 in
set_option maxHeartbeats 8000000 in
theorem rread_five (s : ByteArray) (w : World) (hs2 : s.size ≤ 1970) (hkd : (pI (s.data.toList, 0)).1 = 5) :
    Calls Tryd.prog 15 #[.string s] w fun e w' => ∃ fa fc va vc, e = .returned (.tuple #[(rdM s.data.toList).1.val fa fc va vc, .int .i64 ((rdM s.data.toList).2 : Int)]) ∧
      InRow 1 encS okS ByteArray.empty w' fa (rdM s.data.toList).1.fl.length (rdM s.data.toList).1.fl ∧ InRow 2 Vl.cells Vl.ok vl0 w' va (rdM s.data.toList).1.vl.length (rdM s.data.toList).1.vl ∧ Below w.heap.size w w' := by
  have hls : s.data.toList.length = s.size := by simp
  have hbig : ¬ 1970 < s.size := by omega
  have h1 : ¬ (1970 : Int) < (s.size : Int) := by omega
  obtain ⟨W1, hW1⟩ : ∃ W1, W1 = w.alloc (.cells #[.int .i64 0, .string ⟨#[]⟩, .bool false, .slice none 0 0, .int .i64 0, .int .i64 0, .int .i64 0, .slice none 0 0, .string ⟨#[]⟩] 37) := ⟨_, rfl⟩
  have s1 : W1.heap.size = w.heap.size + 1 := by rw [hW1]; simp
  have b1 : Below w.heap.size w W1 := by rw [hW1]; exact below1 _ _
  have r1 : W1.heap[w.heap.size]? = some (.cells #[.int .i64 0, .string ⟨#[]⟩, .bool false, .slice none 0 0, .int .i64 0, .int .i64 0, .int .i64 0, .slice none 0 0, .string ⟨#[]⟩] 37 (0, 0)) := by rw [hW1]; exact heap_alloc_new w _
  have HM : Hid (rdM s.data.toList = finO (rdK (pI (s.data.toList, 0)).1 (pT 40 (pI (s.data.toList, 0)).2).1 (pT 40 (pI (s.data.toList, 0)).2).2)) := (by unfold rdM; rw [if_neg (by omega)]; rfl : rdM s.data.toList = _)
  clear hls hbig
  obtain ⟨p1, hp1, ci⟩ := cI s 0 (s.data.toList, 0) ⟨Nat.zero_le _, rfl⟩ (by omega)
  obtain ⟨p2, hp2, cx⟩ := cT s p1 _ hp1 (by omega) 40 (by omega)
  generalize hk : (pI (s.data.toList, 0)).1 = k at *
  generalize hst1 : (pI (s.data.toList, 0)).2 = st1 at *
  generalize hg : (pT 40 st1).1 = g at *
  generalize hst2 : (pT 40 st1).2 = st2 at *
  have hgs : g.size ≤ 9223372036854775807 := by
    rw [← hg]
    unfold pT
    split
    · split
      · split
        · split
          · rw [ba_szL, List.length_take]; omega
          · exact Nat.zero_le _
        · exact Nat.zero_le _
      · exact Nat.zero_le _
    · exact Nat.zero_le _
  clear hk hst1 hg hst2
  have HKD : Hid (k = 5) := hkd
  clear hkd
  generalize hc1 : st1.2 = c1 at *
  generalize hc2 : st2.2 = c2 at *
  clear hc1 hp1
  have HC2 : Hid (st2.2 = c2) := hc2
  clear hc2
  go_enter Tryd.func15, Tryd.ntmps15
  go_wp2_with fail
  rw [← hW1]
  refine (copen_any s _).mono ?_
  rintro e w2 ⟨rfl, hb2⟩
  go_wp2_with fail
  refine (ci _).mono ?_
  rintro e w3 ⟨rfl, hb3⟩
  have s3 : W1.heap.size ≤ w3.heap.size := Nat.le_trans hb2.size hb3.size
  have b13 : Below W1.heap.size W1 w3 := hb2.trans (hb3.mono hb2.size)
  obtain ⟨W4, hW4⟩ : ∃ W4, W4 = w3.alloc (.cells #[.string s, .int .i64 p1, .int .i64 c1] 78) := ⟨_, rfl⟩
  have b4 : Below w3.heap.size w3 W4 := by rw [hW4]; exact below1 _ _
  have q4 : W4.heap[w3.heap.size]? = some (.cells #[.string s, .int .i64 p1, .int .i64 c1] 78 (0, 0)) := by rw [hW4]; exact heap_alloc_new w3 _
  obtain ⟨t0, t1, t2⟩ := three q4
  have tl := lt_of_block q4
  go_upto_region 4 with fail
  rw [← hW4]
  clear hW4
  go_wp2_with fail
  refine (cx _).mono ?_
  rintro e w5 ⟨rfl, hb5⟩
  have q5 := (hb5.block _ tl).trans q4
  obtain ⟨u0, u1, u2⟩ := three q5
  have uf := frozen9 q5
  have ul := lt_of_block q5
  obtain ⟨z4, hz4⟩ : ∃ z4, z4 = w3.heap.size := ⟨_, rfl⟩
  rw [← hz4] at q5 u0 u1 u2 uf ul ⊢
  have HZ4 : Hid (z4 = w3.heap.size) := hz4
  clear hz4
  obtain ⟨W6, hW6⟩ : ∃ W6, W6 = ((w5.setCell ⟨z4, 0, none⟩ (.string s)).setCell ⟨z4, 1, none⟩ (.int .i64 p2)).setCell ⟨z4, 2, none⟩ (.int .i64 c2) := ⟨_, rfl⟩
  have q6 : W6.heap[z4]? = some (.cells #[.string s, .int .i64 p2, .int .i64 c2] 78 (0, 0)) := by
    rw [hW6]; simpa using box_set (i := 2) (box_set (i := 1) (box_set (i := 0) q5 (.string s)) (.int .i64 p2)) (.int .i64 c2)
  have o6 : ∀ j, j ≠ z4 → W6.heap[j]? = w5.heap[j]? := fun j hj => by rw [hW6, set_other hj, set_other hj, set_other hj]
  have N6 : Hid (W6.heap.size = w5.heap.size) := (by rw [hW6]; simp [World.setCell] : W6.heap.size = w5.heap.size)
  have e6 : W6.os = w5.os ∧ W6.tape = w5.tape ∧ W6.output = w5.output := by rw [hW6]; exact ⟨rfl, rfl, rfl⟩
  go_upto_region 5 with fail
  rw [← hW6]
  clear hW6 u0 u1 u2 uf ul q5 t0 t1 t2
  obtain ⟨W7, hW7⟩ : ∃ W7, W7 = W6.alloc (.cells #[.int .i64 k, .string g, .bool false, .slice none 0 0, .int .i64 0, .int .i64 0, .int .i64 0, .slice none 0 0, .string ⟨#[]⟩] 37) := ⟨_, rfl⟩
  have x7 : W7.heap[W6.heap.size]? = some (.cells #[.int .i64 k, .string g, .bool false, .slice none 0 0, .int .i64 0, .int .i64 0, .int .i64 0, .slice none 0 0, .string ⟨#[]⟩] 37 (0, 0)) := by rw [hW7]; exact heap_alloc_new W6 _
  have o7 : ∀ j, j < W6.heap.size → W7.heap[j]? = W6.heap[j]? := fun j hj => by rw [hW7]; exact Below.heap_alloc _ _ _ hj
  have N7 : Hid (W7.heap.size = W6.heap.size + 1) := (by rw [hW7]; simp : W7.heap.size = W6.heap.size + 1)
  have e7 : W7.os = W6.os ∧ W7.tape = W6.tape ∧ W7.output = W6.output := by rw [hW7]; exact ⟨rfl, rfl, rfl⟩
  go_upto_region 6 with fail
  rw [← hW7]
  clear hW7
  obtain ⟨z7, hz7⟩ : ∃ z7, z7 = W6.heap.size := ⟨_, rfl⟩
  rw [← hz7] at x7 o7 ⊢
  have HZ7 : Hid (z7 = W6.heap.size) := hz7
  clear hz7
  have s45 := hb5.size
  have s34 := b4.size
  have F7 : Hid (Fs w W7 z4 z7 s p2 c2 ⟨k, g, false, [], 0, 0, 0, [], ⟨#[]⟩⟩ none 0 none 0) := by
    have hz4 := HZ4.out
    have hz7 := HZ7.out
    have n6 := N6.out
    have n7 := N7.out
    have hold : ∀ j, j < w3.heap.size → W7.heap[j]? = w3.heap[j]? := fun j hj => by
      rw [o7 j (by omega), o6 j (by omega), hb5.block j (by omega)]; exact b4.block j hj
    refine ⟨(hold _ (by omega)).trans ((b13.block _ (by omega)).trans r1), (o7 z4 (by omega)).trans q6, x7, World.ownsRow_nil _ _ _ _, World.ownsRow_nil _ _ _ _, fun b hb => by simp [Value.ownBlock] at hb, by omega, by omega, ?_, by omega, ⟨hgs, by simp, by simp⟩, by show ByteArray.size ⟨#[]⟩ ≤ _; decide⟩
    refine ⟨?_, ?_, ?_, by omega, fun j hj => (hold j (by omega)).trans ((b13.block j (by omega)).trans (b1.block j hj))⟩
    · exact e7.1.trans (e6.1.trans (hb5.os.trans (b4.os.trans (b13.os.trans b1.os))))
    · exact e7.2.1.trans (e6.2.1.trans (hb5.tape.trans (b4.tape.trans (b13.tape.trans b1.tape))))
    · exact e7.2.2.trans (e6.2.2.trans (hb5.output.trans (b4.output.trans (b13.output.trans b1.output))))
  clear hb2 hb3 hb5 b4 b13 s3 q4 tl HZ4 q6 o6 N6 e6 x7 o7 N7 e7 HZ7 s45 s34 r1 s1 b1 hW1 ci cx
  have hkd := HKD.out
  clear HKD
  have k1 : ¬ k = 1 := by omega
  have k5 := hkd
  clear hkd
  have q1 := beq_f k1
  have q3 := beq_f (show ¬ k = 3 by omega)
  have q4 := beq_f (show ¬ k = 4 by omega)
  have r1 : 3 ≤ k := by omega
  have r2 : k ≤ 5 := by omega
  have hK : rdK k g st2 = some (⟨k, g, false, [], (pI st2).1, (pI (pI st2).2).1, 0, [], ⟨#[]⟩⟩, (pI (pI st2).2).2) := by unfold rdK; rw [if_neg k1, if_pos k5, k5]; rfl
  have HF0 : Hid (rdM s.data.toList = fin ⟨k, g, false, [], (pI st2).1, (pI (pI st2).2).1, 0, [], ⟨#[]⟩⟩ (pI (pI st2).2).2) := (by rw [HM.out, hK]; rfl : rdM s.data.toList = fin ⟨k, g, false, [], (pI st2).1, (pI (pI st2).2).1, 0, [], ⟨#[]⟩⟩ (pI (pI st2).2).2)
  clear hK HM k1 k5
  obtain ⟨p3, hp3, ci3⟩ := cI s p2 st2 hp2 (by omega)
  obtain ⟨p4, hp4, ci4⟩ := cI s p3 _ hp3 (by omega)
  rw [HC2.out] at ci3
  generalize (pI st2).1 = pub at *
  generalize (pI st2).2 = st3 at *
  generalize (pI st3).1 = seq at *
  generalize (pI st3).2 = st4 at *
  generalize hc3 : st3.2 = c3 at *
  generalize hc4 : st4.2 = c4 at *
  have HC4 : Hid (st4.2 = c4) := hc4
  clear hc3 hc4 hp3 hp2 HC2
  obtain ⟨t0, t1, t2⟩ := three F7.out.cur
  have tl := lt_of_block F7.out.cur
  go_wp2_with fail
  refine (ci3 _).mono ?_
  rintro e w8 ⟨rfl, hb8⟩
  have F8 : Hid (Fs w w8 z4 z7 s p2 c2 ⟨k, g, false, [], 0, 0, 0, [], ⟨#[]⟩⟩ none 0 none 0) := F7.out.below hb8
  clear t0 t1 t2 tl hb8 F7
  go_wp2_with fail
  refine (ci4 _).mono ?_
  rintro e w10 ⟨rfl, hb10⟩
  have F10 : Hid (Fs w w10 z4 z7 s p2 c2 ⟨k, g, false, [], 0, 0, 0, [], ⟨#[]⟩⟩ none 0 none 0) := (F8.out.below (below1 _ _)).below hb10
  clear hb10 F8
  obtain ⟨W11, hW11⟩ : ∃ W11, W11 = w10.alloc (.cells #[.string s, .int .i64 p4, .int .i64 c4] 78) := ⟨_, rfl⟩
  have F11 : Hid (Fs w W11 z4 z7 s p2 c2 ⟨k, g, false, [], 0, 0, 0, [], ⟨#[]⟩⟩ none 0 none 0) := (by rw [hW11]; exact F10.out.below (below1 _ _) : Fs w W11 z4 z7 s p2 c2 ⟨k, g, false, [], 0, 0, 0, [], ⟨#[]⟩⟩ none 0 none 0)
  have q11 : W11.heap[w10.heap.size]? = some (.cells #[.string s, .int .i64 p4, .int .i64 c4] 78 (0, 0)) := by rw [hW11]; exact heap_alloc_new w10 _
  go_upto_region 21 with fail
  rw [← hW11]
  clear hW11 F10
  obtain ⟨t0, t1, t2⟩ := three q11
  have tl := lt_of_block q11
  obtain ⟨u0, u1, u2⟩ := three F11.out.cur
  have uf := frozen9 F11.out.cur
  have ul := lt_of_block F11.out.cur
  obtain ⟨W12, hW12⟩ : ∃ W12, W12 = ((W11.setCell ⟨z4, 0, none⟩ (.string s)).setCell ⟨z4, 1, none⟩ (.int .i64 p4)).setCell ⟨z4, 2, none⟩ (.int .i64 c4) := ⟨_, rfl⟩
  have F12 : Hid (Fs w W12 z4 z7 s p4 c4 ⟨k, g, false, [], 0, 0, 0, [], ⟨#[]⟩⟩ none 0 none 0) := (by rw [hW12]; exact F11.out.setCur : Fs w W12 z4 z7 s p4 c4 ⟨k, g, false, [], 0, 0, 0, [], ⟨#[]⟩⟩ none 0 none 0)
  go_upto_region 22 with fail
  rw [← hW12]
  clear hW12 t0 t1 t2 tl u0 u1 u2 uf ul q11 F11
  have v4 : W12.cell? ⟨z7, 4, none⟩ = some (.int .i64 0) := blk_cell (j := 4) F12.out.box (by simp)
  have vf := frozen9 F12.out.box
  have vl := lt_of_block F12.out.box
  obtain ⟨W13, hW13⟩ : ∃ W13, W13 = W12.setCell ⟨z7, 4, none⟩ (.int .i64 pub) := ⟨_, rfl⟩
  have F13 : Hid (Fs w W13 z4 z7 s p4 c4 ⟨k, g, false, [], pub, 0, 0, [], ⟨#[]⟩⟩ none 0 none 0) := (by
    rw [hW13]
    exact F12.out.setBox 4 (.int .i64 pub) ⟨k, g, false, [], pub, 0, 0, [], ⟨#[]⟩⟩ rfl rfl rfl (by show ByteArray.size ⟨#[]⟩ ≤ _; decide) (by simpa using box_set (i := 4) F12.out.box (.int .i64 pub)) : Fs w W13 z4 z7 s p4 c4 ⟨k, g, false, [], pub, 0, 0, [], ⟨#[]⟩⟩ none 0 none 0)
  go_upto_region 23 with fail
  rw [← hW13]
  clear hW13 v4 vf vl F12
  have v5 : W13.cell? ⟨z7, 5, none⟩ = some (.int .i64 0) := blk_cell (j := 5) F13.out.box (by simp)
  have vf := frozen9 F13.out.box
  have vl := lt_of_block F13.out.box
  obtain ⟨W14, hW14⟩ : ∃ W14, W14 = W13.setCell ⟨z7, 5, none⟩ (.int .i64 seq) := ⟨_, rfl⟩
  have F14 : Hid (Fs w W14 z4 z7 s p4 c4 ⟨k, g, false, [], pub, seq, 0, [], ⟨#[]⟩⟩ none 0 none 0) := (by
    rw [hW14]
    exact F13.out.setBox 5 (.int .i64 seq) ⟨k, g, false, [], pub, seq, 0, [], ⟨#[]⟩⟩ rfl rfl rfl (by show ByteArray.size ⟨#[]⟩ ≤ _; decide) (by simpa using box_set (i := 5) F13.out.box (.int .i64 seq)) : Fs w W14 z4 z7 s p4 c4 ⟨k, g, false, [], pub, seq, 0, [], ⟨#[]⟩⟩ none 0 none 0)
  go_upto_region 24 with fail
  rw [← hW14]
  clear hW14 v5 vf vl F13
  obtain ⟨m, hm⟩ : ∃ m : Mg, m = ⟨k, g, false, [], pub, seq, 0, [], ⟨#[]⟩⟩ := ⟨_, rfl⟩
  have HF : Hid (rdM s.data.toList = fin m st4) := (by rw [hm]; exact HF0.out : rdM s.data.toList = fin m st4)
  have F : Hid (Fs w W14 z4 z7 s p4 c4 m none 0 none 0) := (by rw [hm]; exact F14.out : Fs w W14 z4 z7 s p4 c4 m none 0 none 0)
  have hpl : Pl15 s p4 st4 := hp4
  have HCc := HC4
  clear F14 HF0 hm hp4 ci3 ci4
  have cd := cD s p4 st4 hpl
  have hfd := field2 s p4
  rw [HCc.out] at cd
  have q4 := F.out.cur
  obtain ⟨t0, t1, t2⟩ := three q4
  have tl := lt_of_block q4
  clear hpl
  by_cases hd : dn st4 = 0
  · rw [hd] at cd
    go_wp2_with fail
    refine (cd _).mono ?_
    rintro e w8 ⟨rfl, hb8⟩
    have F8 := F.out.below hb8
    have q8 := F8.box
    obtain ⟨x0, x1, x2, x3, x4, x5, x6, x7, x8⟩ := cells9 q8
    have xl := lt_of_block q8
    have hck := rcheck_any m none 0 none 0 w8 F8.small.1 F8.pays F8.small.2.1 F8.small.2.2
    unfold Mg.val at hck
    clear cd t0 t1 t2 tl q4
    go_wp2_with fail
    refine hck.mono ?_
    rintro e w6 ⟨rfl, hb6⟩
    have F6 := F8.below hb6
    have hre := F6.res
    have hbx := F6.box
    clear x0 x1 x2 x3 x4 x5 x6 x7 x8 xl
    by_cases hc : chk m = 0
    · have HR : Hid (rdM s.data.toList = (m, 0)) := (by rw [HF.out]; unfold fin; rw [if_pos hd, if_pos hc] : rdM s.data.toList = (m, 0))
      rw [hc]
      obtain ⟨x0, x1, x2, x3, x4, x5, x6, x7, x8⟩ := cells9 hbx
      have xl := lt_of_block hbx
      obtain ⟨z0, z1, z2, z3, z4', z5, z6, z7', z8⟩ := cells9 hre
      have zf := frozen9 hre
      have zl := lt_of_block hre
      obtain ⟨W9, hW9⟩ : ∃ W9, W9 = sets9 w6 w.heap.size (.int .i64 m.kind) (.string m.group) (.bool m.any) (.slice none m.fl.length 0) (.int .i64 m.pub) (.int .i64 m.seq) (.int .i64 m.hops) (.slice none m.vl.length 0) (.string m.pay) := ⟨_, rfl⟩
      have b9 : W9.heap[w.heap.size]? = _ := (congrArg (fun W : World => W.heap[w.heap.size]?) hW9).trans (sets9_box hre)
      obtain ⟨y0, y1, y2, y3, y4, y5, y6, y7, y8⟩ := cells9 b9
      have o9 : ∀ k, k ≠ w.heap.size → W9.heap[k]? = w6.heap[k]? := fun k hk => by rw [hW9]; exact sets9_other hk
      have n9 : w6.heap.size ≤ W9.heap.size := by rw [hW9, sets9_size]; exact Nat.le_refl _
      have e9 : W9.os = w6.os ∧ W9.tape = w6.tape ∧ W9.output = w6.output := by rw [hW9]; exact sets9_rest
      have H9 : Hid ((((((((((w6.setCell ⟨w.heap.size, 0, none⟩ (.int .i64 m.kind)).setCell ⟨w.heap.size, 1, none⟩ (.string m.group)).setCell ⟨w.heap.size, 2, none⟩ (.bool m.any)).setCell ⟨w.heap.size, 3, none⟩ (.slice none m.fl.length 0)).setCell ⟨w.heap.size, 4, none⟩ (.int .i64 m.pub)).setCell ⟨w.heap.size, 5, none⟩ (.int .i64 m.seq)).setCell ⟨w.heap.size, 6, none⟩ (.int .i64 m.hops)).setCell ⟨w.heap.size, 7, none⟩ (.slice none m.vl.length 0)).setCell ⟨w.heap.size, 8, none⟩ (.string m.pay)) = W9) := hW9.symm
      clear hW9 b9
      have HI : Hid _ := F6.rows (by have := rdM_ok s.data.toList (by rw [HR.out]); rw [HR.out] at this; exact this)
      have hbl := F6.bel
      clear F6 F8 hbx hre q8 hb6 hb8
      go_wp2
      rw [H9.out]
      refine bodyPost_ret (v := .tuple #[m.val none 0 none 0, .int .i64 0]) (by simp [Mg.val, results, Tryd.results15, go_sem, y0, y1, y2, y3, y4, y5, y6, y7, y8]) rfl ⟨none, 0, none, 0, by rw [HR.out]; rfl, ?_, ?_, ?_⟩
      · rw [HR.out]; exact InRow.mv HI.out.1 n9 o9
      · rw [HR.out]; exact InRow.mv HI.out.2 n9 o9
      · exact below_sets hbl n9 e9.1 e9.2.1 e9.2.2 o9
    · have HR : Hid (rdM s.data.toList = (mg0, chk m)) := (by rw [HF.out]; unfold fin; rw [if_pos hd, if_neg hc] : rdM s.data.toList = (mg0, chk m))
      have hne := bne_t (show ¬ (chk m : Int) = 0 by omega)
      obtain ⟨z0, z1, z2, z3, z4', z5, z6, z7', z8⟩ := cells9 hre
      have zf := frozen9 hre
      have zl := lt_of_block hre
      obtain ⟨W9, hW9⟩ : ∃ W9, W9 = sets9 w6 w.heap.size (.int .i64 0) (.string ⟨#[]⟩) (.bool false) (.slice none 0 0) (.int .i64 0) (.int .i64 0) (.int .i64 0) (.slice none 0 0) (.string ⟨#[]⟩) := ⟨_, rfl⟩
      have b9 : W9.heap[w.heap.size]? = _ := (congrArg (fun W : World => W.heap[w.heap.size]?) hW9).trans (sets9_box hre)
      obtain ⟨y0, y1, y2, y3, y4, y5, y6, y7, y8⟩ := cells9 b9
      have o9 : ∀ k, k ≠ w.heap.size → W9.heap[k]? = w6.heap[k]? := fun k hk => by rw [hW9]; exact sets9_other hk
      have n9 : w6.heap.size ≤ W9.heap.size := by rw [hW9, sets9_size]; exact Nat.le_refl _
      have e9 : W9.os = w6.os ∧ W9.tape = w6.tape ∧ W9.output = w6.output := by rw [hW9]; exact sets9_rest
      have H9 : Hid ((((((((((w6.setCell ⟨w.heap.size, 0, none⟩ (.int .i64 0)).setCell ⟨w.heap.size, 1, none⟩ (.string ⟨#[]⟩)).setCell ⟨w.heap.size, 2, none⟩ (.bool false)).setCell ⟨w.heap.size, 3, none⟩ (.slice none 0 0)).setCell ⟨w.heap.size, 4, none⟩ (.int .i64 0)).setCell ⟨w.heap.size, 5, none⟩ (.int .i64 0)).setCell ⟨w.heap.size, 6, none⟩ (.int .i64 0)).setCell ⟨w.heap.size, 7, none⟩ (.slice none 0 0)).setCell ⟨w.heap.size, 8, none⟩ (.string ⟨#[]⟩)) = W9) := hW9.symm
      clear hW9 b9
      have hbl := F6.bel
      clear F6 F8 hbx hre q8 hb6 hb8
      go_wp2
      rw [H9.out]
      refine bodyPost_ret (v := .tuple #[.agg #[.int .i64 0, .string ⟨#[]⟩, .bool false, .slice none 0 0, .int .i64 0, .int .i64 0, .int .i64 0, .slice none 0 0, .string ⟨#[]⟩], .int .i64 (chk m : Int)]) (by simp [results, Tryd.results15, go_sem, y0, y1, y2, y3, y4, y5, y6, y7, y8]) rfl ⟨none, 0, none, 0, by rw [HR.out]; rfl, ?_, ?_, ?_⟩
      · rw [HR.out]; exact in_nil
      · rw [HR.out]; exact in_nil
      · exact below_sets hbl n9 e9.1 e9.2.1 e9.2.2 o9
  · have HR : Hid (rdM s.data.toList = (mg0, dn st4)) := (by rw [HF.out]; unfold fin; rw [if_neg hd] : rdM s.data.toList = (mg0, dn st4))
    have hne := bne_t (show ¬ (dn st4 : Int) = 0 by omega)
    generalize dn st4 = dd at *
    go_wp2_with fail
    refine (cd _).mono ?_
    rintro e w6 ⟨rfl, hb6⟩
    have F6 := F.out.below hb6
    have hre := F6.res
    obtain ⟨z0, z1, z2, z3, z4', z5, z6, z7', z8⟩ := cells9 hre
    have zf := frozen9 hre
    have zl := lt_of_block hre
    obtain ⟨W9, hW9⟩ : ∃ W9, W9 = sets9 w6 w.heap.size (.int .i64 0) (.string ⟨#[]⟩) (.bool false) (.slice none 0 0) (.int .i64 0) (.int .i64 0) (.int .i64 0) (.slice none 0 0) (.string ⟨#[]⟩) := ⟨_, rfl⟩
    have b9 : W9.heap[w.heap.size]? = _ := (congrArg (fun W : World => W.heap[w.heap.size]?) hW9).trans (sets9_box hre)
    obtain ⟨y0, y1, y2, y3, y4, y5, y6, y7, y8⟩ := cells9 b9
    have o9 : ∀ k, k ≠ w.heap.size → W9.heap[k]? = w6.heap[k]? := fun k hk => by rw [hW9]; exact sets9_other hk
    have n9 : w6.heap.size ≤ W9.heap.size := by rw [hW9, sets9_size]; exact Nat.le_refl _
    have e9 : W9.os = w6.os ∧ W9.tape = w6.tape ∧ W9.output = w6.output := by rw [hW9]; exact sets9_rest
    have H9 : Hid ((((((((((w6.setCell ⟨w.heap.size, 0, none⟩ (.int .i64 0)).setCell ⟨w.heap.size, 1, none⟩ (.string ⟨#[]⟩)).setCell ⟨w.heap.size, 2, none⟩ (.bool false)).setCell ⟨w.heap.size, 3, none⟩ (.slice none 0 0)).setCell ⟨w.heap.size, 4, none⟩ (.int .i64 0)).setCell ⟨w.heap.size, 5, none⟩ (.int .i64 0)).setCell ⟨w.heap.size, 6, none⟩ (.int .i64 0)).setCell ⟨w.heap.size, 7, none⟩ (.slice none 0 0)).setCell ⟨w.heap.size, 8, none⟩ (.string ⟨#[]⟩)) = W9) := hW9.symm
    clear hW9 b9
    have hbl := F6.bel
    clear F6 hre hb6 cd t0 t1 t2 tl q4
    go_wp2
    rw [H9.out]
    refine bodyPost_ret (v := .tuple #[.agg #[.int .i64 0, .string ⟨#[]⟩, .bool false, .slice none 0 0, .int .i64 0, .int .i64 0, .int .i64 0, .slice none 0 0, .string ⟨#[]⟩], .int .i64 (dd : Int)]) (by simp [results, Tryd.results15, go_sem, y0, y1, y2, y3, y4, y5, y6, y7, y8]) rfl ⟨none, 0, none, 0, by rw [HR.out]; rfl, ?_, ?_, ?_⟩
    · rw [HR.out]; exact in_nil
    · rw [HR.out]; exact in_nil
    · exact below_sets hbl n9 e9.1 e9.2.1 e9.2.2 o9
set_option maxRecDepth 100000 in
set_option maxHeartbeats 8000000 in
theorem rread_other (s : ByteArray) (w : World) (hs2 : s.size ≤ 1970) (hkd : ¬ (pI (s.data.toList, 0)).1 = 1 ∧ ¬ (pI (s.data.toList, 0)).1 = 5 ∧ ¬ ((pI (s.data.toList, 0)).1 = 3 ∨ (pI (s.data.toList, 0)).1 = 4)) :
    Calls Tryd.prog 15 #[.string s] w fun e w' => ∃ fa fc va vc, e = .returned (.tuple #[(rdM s.data.toList).1.val fa fc va vc, .int .i64 ((rdM s.data.toList).2 : Int)]) ∧
      InRow 1 encS okS ByteArray.empty w' fa (rdM s.data.toList).1.fl.length (rdM s.data.toList).1.fl ∧ InRow 2 Vl.cells Vl.ok vl0 w' va (rdM s.data.toList).1.vl.length (rdM s.data.toList).1.vl ∧ Below w.heap.size w w' := by
  have hls : s.data.toList.length = s.size := by simp
  have hbig : ¬ 1970 < s.size := by omega
  have h1 : ¬ (1970 : Int) < (s.size : Int) := by omega
  obtain ⟨W1, hW1⟩ : ∃ W1, W1 = w.alloc (.cells #[.int .i64 0, .string ⟨#[]⟩, .bool false, .slice none 0 0, .int .i64 0, .int .i64 0, .int .i64 0, .slice none 0 0, .string ⟨#[]⟩] 37) := ⟨_, rfl⟩
  have s1 : W1.heap.size = w.heap.size + 1 := by rw [hW1]; simp
  have b1 : Below w.heap.size w W1 := by rw [hW1]; exact below1 _ _
  have r1 : W1.heap[w.heap.size]? = some (.cells #[.int .i64 0, .string ⟨#[]⟩, .bool false, .slice none 0 0, .int .i64 0, .int .i64 0, .int .i64 0, .slice none 0 0, .string ⟨#[]⟩] 37 (0, 0)) := by rw [hW1]; exact heap_alloc_new w _
  have HM : Hid (rdM s.data.toList = finO (rdK (pI (s.data.toList, 0)).1 (pT 40 (pI (s.data.toList, 0)).2).1 (pT 40 (pI (s.data.toList, 0)).2).2)) := (by unfold rdM; rw [if_neg (by omega)]; rfl : rdM s.data.toList = _)
  clear hls hbig
  obtain ⟨p1, hp1, ci⟩ := cI s 0 (s.data.toList, 0) ⟨Nat.zero_le _, rfl⟩ (by omega)
  obtain ⟨p2, hp2, cx⟩ := cT s p1 _ hp1 (by omega) 40 (by omega)
  generalize hk : (pI (s.data.toList, 0)).1 = k at *
  generalize hst1 : (pI (s.data.toList, 0)).2 = st1 at *
  generalize hg : (pT 40 st1).1 = g at *
  generalize hst2 : (pT 40 st1).2 = st2 at *
  have hgs : g.size ≤ 9223372036854775807 := by
    rw [← hg]
    unfold pT
    split
    · split
      · split
        · split
          · rw [ba_szL, List.length_take]; omega
          · exact Nat.zero_le _
        · exact Nat.zero_le _
      · exact Nat.zero_le _
    · exact Nat.zero_le _
  clear hk hst1 hg hst2
  have HKD : Hid (¬ k = 1 ∧ ¬ k = 5 ∧ ¬ (k = 3 ∨ k = 4)) := hkd
  clear hkd
  generalize hc1 : st1.2 = c1 at *
  generalize hc2 : st2.2 = c2 at *
  clear hc1 hp1
  have HC2 : Hid (st2.2 = c2) := hc2
  clear hc2
  go_enter Tryd.func15, Tryd.ntmps15
  go_wp2_with fail
  rw [← hW1]
  refine (copen_any s _).mono ?_
  rintro e w2 ⟨rfl, hb2⟩
  go_wp2_with fail
  refine (ci _).mono ?_
  rintro e w3 ⟨rfl, hb3⟩
  have s3 : W1.heap.size ≤ w3.heap.size := Nat.le_trans hb2.size hb3.size
  have b13 : Below W1.heap.size W1 w3 := hb2.trans (hb3.mono hb2.size)
  obtain ⟨W4, hW4⟩ : ∃ W4, W4 = w3.alloc (.cells #[.string s, .int .i64 p1, .int .i64 c1] 78) := ⟨_, rfl⟩
  have b4 : Below w3.heap.size w3 W4 := by rw [hW4]; exact below1 _ _
  have q4 : W4.heap[w3.heap.size]? = some (.cells #[.string s, .int .i64 p1, .int .i64 c1] 78 (0, 0)) := by rw [hW4]; exact heap_alloc_new w3 _
  obtain ⟨t0, t1, t2⟩ := three q4
  have tl := lt_of_block q4
  go_upto_region 4 with fail
  rw [← hW4]
  clear hW4
  go_wp2_with fail
  refine (cx _).mono ?_
  rintro e w5 ⟨rfl, hb5⟩
  have q5 := (hb5.block _ tl).trans q4
  obtain ⟨u0, u1, u2⟩ := three q5
  have uf := frozen9 q5
  have ul := lt_of_block q5
  obtain ⟨z4, hz4⟩ : ∃ z4, z4 = w3.heap.size := ⟨_, rfl⟩
  rw [← hz4] at q5 u0 u1 u2 uf ul ⊢
  have HZ4 : Hid (z4 = w3.heap.size) := hz4
  clear hz4
  obtain ⟨W6, hW6⟩ : ∃ W6, W6 = ((w5.setCell ⟨z4, 0, none⟩ (.string s)).setCell ⟨z4, 1, none⟩ (.int .i64 p2)).setCell ⟨z4, 2, none⟩ (.int .i64 c2) := ⟨_, rfl⟩
  have q6 : W6.heap[z4]? = some (.cells #[.string s, .int .i64 p2, .int .i64 c2] 78 (0, 0)) := by
    rw [hW6]; simpa using box_set (i := 2) (box_set (i := 1) (box_set (i := 0) q5 (.string s)) (.int .i64 p2)) (.int .i64 c2)
  have o6 : ∀ j, j ≠ z4 → W6.heap[j]? = w5.heap[j]? := fun j hj => by rw [hW6, set_other hj, set_other hj, set_other hj]
  have N6 : Hid (W6.heap.size = w5.heap.size) := (by rw [hW6]; simp [World.setCell] : W6.heap.size = w5.heap.size)
  have e6 : W6.os = w5.os ∧ W6.tape = w5.tape ∧ W6.output = w5.output := by rw [hW6]; exact ⟨rfl, rfl, rfl⟩
  go_upto_region 5 with fail
  rw [← hW6]
  clear hW6 u0 u1 u2 uf ul q5 t0 t1 t2
  obtain ⟨W7, hW7⟩ : ∃ W7, W7 = W6.alloc (.cells #[.int .i64 k, .string g, .bool false, .slice none 0 0, .int .i64 0, .int .i64 0, .int .i64 0, .slice none 0 0, .string ⟨#[]⟩] 37) := ⟨_, rfl⟩
  have x7 : W7.heap[W6.heap.size]? = some (.cells #[.int .i64 k, .string g, .bool false, .slice none 0 0, .int .i64 0, .int .i64 0, .int .i64 0, .slice none 0 0, .string ⟨#[]⟩] 37 (0, 0)) := by rw [hW7]; exact heap_alloc_new W6 _
  have o7 : ∀ j, j < W6.heap.size → W7.heap[j]? = W6.heap[j]? := fun j hj => by rw [hW7]; exact Below.heap_alloc _ _ _ hj
  have N7 : Hid (W7.heap.size = W6.heap.size + 1) := (by rw [hW7]; simp : W7.heap.size = W6.heap.size + 1)
  have e7 : W7.os = W6.os ∧ W7.tape = W6.tape ∧ W7.output = W6.output := by rw [hW7]; exact ⟨rfl, rfl, rfl⟩
  go_upto_region 6 with fail
  rw [← hW7]
  clear hW7
  obtain ⟨z7, hz7⟩ : ∃ z7, z7 = W6.heap.size := ⟨_, rfl⟩
  rw [← hz7] at x7 o7 ⊢
  have HZ7 : Hid (z7 = W6.heap.size) := hz7
  clear hz7
  have s45 := hb5.size
  have s34 := b4.size
  have F7 : Hid (Fs w W7 z4 z7 s p2 c2 ⟨k, g, false, [], 0, 0, 0, [], ⟨#[]⟩⟩ none 0 none 0) := by
    have hz4 := HZ4.out
    have hz7 := HZ7.out
    have n6 := N6.out
    have n7 := N7.out
    have hold : ∀ j, j < w3.heap.size → W7.heap[j]? = w3.heap[j]? := fun j hj => by
      rw [o7 j (by omega), o6 j (by omega), hb5.block j (by omega)]; exact b4.block j hj
    refine ⟨(hold _ (by omega)).trans ((b13.block _ (by omega)).trans r1), (o7 z4 (by omega)).trans q6, x7, World.ownsRow_nil _ _ _ _, World.ownsRow_nil _ _ _ _, fun b hb => by simp [Value.ownBlock] at hb, by omega, by omega, ?_, by omega, ⟨hgs, by simp, by simp⟩, by show ByteArray.size ⟨#[]⟩ ≤ _; decide⟩
    refine ⟨?_, ?_, ?_, by omega, fun j hj => (hold j (by omega)).trans ((b13.block j (by omega)).trans (b1.block j hj))⟩
    · exact e7.1.trans (e6.1.trans (hb5.os.trans (b4.os.trans (b13.os.trans b1.os))))
    · exact e7.2.1.trans (e6.2.1.trans (hb5.tape.trans (b4.tape.trans (b13.tape.trans b1.tape))))
    · exact e7.2.2.trans (e6.2.2.trans (hb5.output.trans (b4.output.trans (b13.output.trans b1.output))))
  clear hb2 hb3 hb5 b4 b13 s3 q4 tl HZ4 q6 o6 N6 e6 x7 o7 N7 e7 HZ7 s45 s34 r1 s1 b1 hW1 ci cx
  have hkd := HKD.out
  clear HKD
  obtain ⟨k1, k5, k34⟩ := hkd
  have q1 := beq_f k1
  have q3 := beq_f (show ¬ k = 3 by omega)
  have q4 := beq_f (show ¬ k = 4 by omega)
  obtain ⟨m, hm⟩ : ∃ m : Mg, m = ⟨k, g, false, [], 0, 0, 0, [], ⟨#[]⟩⟩ := ⟨_, rfl⟩
  have hK : rdK k g st2 = some (m, st2) := by unfold rdK; rw [if_neg k1, if_neg k5, if_neg k34, hm]; rfl
  have HF : Hid (rdM s.data.toList = fin m st2) := (by rw [HM.out, hK]; rfl : rdM s.data.toList = fin m st2)
  have F : Hid (Fs w W7 z4 z7 s p2 c2 m none 0 none 0) := by rw [hm]; exact F7
  have hpl : Pl15 s p2 st2 := hp2
  have HCc := HC2
  have hcase : ¬ 3 ≤ k ∨ (3 ≤ k ∧ ¬ k ≤ 5) := by omega
  clear F7 HM hK hm k1 k5 k34 hp2
  go_upto_region 18 with fail
  go_cut [91] (fun v wx => v = .bool false ∧ W7 = wx)
  case first =>
    rcases hcase with h3 | ⟨h3, h5⟩
    all_goals
      go_wp2
      go_meet
      exact ⟨rfl, rfl⟩
  case rest =>
    obtain ⟨rfl, hwx⟩ := hcut
    subst hwx
    clear hcase
    have cd := cD s p2 st2 hpl
    have hfd := field2 s p2
    rw [HCc.out] at cd
    have q4 := F.out.cur
    obtain ⟨t0, t1, t2⟩ := three q4
    have tl := lt_of_block q4
    clear hpl
    by_cases hd : dn st2 = 0
    · rw [hd] at cd
      go_wp2_with fail
      refine (cd _).mono ?_
      rintro e w8 ⟨rfl, hb8⟩
      have F8 := F.out.below hb8
      have q8 := F8.box
      obtain ⟨x0, x1, x2, x3, x4, x5, x6, x7, x8⟩ := cells9 q8
      have xl := lt_of_block q8
      have hck := rcheck_any m none 0 none 0 w8 F8.small.1 F8.pays F8.small.2.1 F8.small.2.2
      unfold Mg.val at hck
      clear cd t0 t1 t2 tl q4
      go_wp2_with fail
      refine hck.mono ?_
      rintro e w6 ⟨rfl, hb6⟩
      have F6 := F8.below hb6
      have hre := F6.res
      have hbx := F6.box
      clear x0 x1 x2 x3 x4 x5 x6 x7 x8 xl
      by_cases hc : chk m = 0
      · have HR : Hid (rdM s.data.toList = (m, 0)) := (by rw [HF.out]; unfold fin; rw [if_pos hd, if_pos hc] : rdM s.data.toList = (m, 0))
        rw [hc]
        obtain ⟨x0, x1, x2, x3, x4, x5, x6, x7, x8⟩ := cells9 hbx
        have xl := lt_of_block hbx
        obtain ⟨z0, z1, z2, z3, z4', z5, z6, z7', z8⟩ := cells9 hre
        have zf := frozen9 hre
        have zl := lt_of_block hre
        obtain ⟨W9, hW9⟩ : ∃ W9, W9 = sets9 w6 w.heap.size (.int .i64 m.kind) (.string m.group) (.bool m.any) (.slice none m.fl.length 0) (.int .i64 m.pub) (.int .i64 m.seq) (.int .i64 m.hops) (.slice none m.vl.length 0) (.string m.pay) := ⟨_, rfl⟩
        have b9 : W9.heap[w.heap.size]? = _ := (congrArg (fun W : World => W.heap[w.heap.size]?) hW9).trans (sets9_box hre)
        obtain ⟨y0, y1, y2, y3, y4, y5, y6, y7, y8⟩ := cells9 b9
        have o9 : ∀ k, k ≠ w.heap.size → W9.heap[k]? = w6.heap[k]? := fun k hk => by rw [hW9]; exact sets9_other hk
        have n9 : w6.heap.size ≤ W9.heap.size := by rw [hW9, sets9_size]; exact Nat.le_refl _
        have e9 : W9.os = w6.os ∧ W9.tape = w6.tape ∧ W9.output = w6.output := by rw [hW9]; exact sets9_rest
        have H9 : Hid ((((((((((w6.setCell ⟨w.heap.size, 0, none⟩ (.int .i64 m.kind)).setCell ⟨w.heap.size, 1, none⟩ (.string m.group)).setCell ⟨w.heap.size, 2, none⟩ (.bool m.any)).setCell ⟨w.heap.size, 3, none⟩ (.slice none m.fl.length 0)).setCell ⟨w.heap.size, 4, none⟩ (.int .i64 m.pub)).setCell ⟨w.heap.size, 5, none⟩ (.int .i64 m.seq)).setCell ⟨w.heap.size, 6, none⟩ (.int .i64 m.hops)).setCell ⟨w.heap.size, 7, none⟩ (.slice none m.vl.length 0)).setCell ⟨w.heap.size, 8, none⟩ (.string m.pay)) = W9) := hW9.symm
        clear hW9 b9
        have HI : Hid _ := F6.rows (by have := rdM_ok s.data.toList (by rw [HR.out]); rw [HR.out] at this; exact this)
        have hbl := F6.bel
        clear F6 F8 hbx hre q8 hb6 hb8
        go_wp2
        rw [H9.out]
        refine bodyPost_ret (v := .tuple #[m.val none 0 none 0, .int .i64 0]) (by simp [Mg.val, results, Tryd.results15, go_sem, y0, y1, y2, y3, y4, y5, y6, y7, y8]) rfl ⟨none, 0, none, 0, by rw [HR.out]; rfl, ?_, ?_, ?_⟩
        · rw [HR.out]; exact InRow.mv HI.out.1 n9 o9
        · rw [HR.out]; exact InRow.mv HI.out.2 n9 o9
        · exact below_sets hbl n9 e9.1 e9.2.1 e9.2.2 o9
      · have HR : Hid (rdM s.data.toList = (mg0, chk m)) := (by rw [HF.out]; unfold fin; rw [if_pos hd, if_neg hc] : rdM s.data.toList = (mg0, chk m))
        have hne := bne_t (show ¬ (chk m : Int) = 0 by omega)
        obtain ⟨z0, z1, z2, z3, z4', z5, z6, z7', z8⟩ := cells9 hre
        have zf := frozen9 hre
        have zl := lt_of_block hre
        obtain ⟨W9, hW9⟩ : ∃ W9, W9 = sets9 w6 w.heap.size (.int .i64 0) (.string ⟨#[]⟩) (.bool false) (.slice none 0 0) (.int .i64 0) (.int .i64 0) (.int .i64 0) (.slice none 0 0) (.string ⟨#[]⟩) := ⟨_, rfl⟩
        have b9 : W9.heap[w.heap.size]? = _ := (congrArg (fun W : World => W.heap[w.heap.size]?) hW9).trans (sets9_box hre)
        obtain ⟨y0, y1, y2, y3, y4, y5, y6, y7, y8⟩ := cells9 b9
        have o9 : ∀ k, k ≠ w.heap.size → W9.heap[k]? = w6.heap[k]? := fun k hk => by rw [hW9]; exact sets9_other hk
        have n9 : w6.heap.size ≤ W9.heap.size := by rw [hW9, sets9_size]; exact Nat.le_refl _
        have e9 : W9.os = w6.os ∧ W9.tape = w6.tape ∧ W9.output = w6.output := by rw [hW9]; exact sets9_rest
        have H9 : Hid ((((((((((w6.setCell ⟨w.heap.size, 0, none⟩ (.int .i64 0)).setCell ⟨w.heap.size, 1, none⟩ (.string ⟨#[]⟩)).setCell ⟨w.heap.size, 2, none⟩ (.bool false)).setCell ⟨w.heap.size, 3, none⟩ (.slice none 0 0)).setCell ⟨w.heap.size, 4, none⟩ (.int .i64 0)).setCell ⟨w.heap.size, 5, none⟩ (.int .i64 0)).setCell ⟨w.heap.size, 6, none⟩ (.int .i64 0)).setCell ⟨w.heap.size, 7, none⟩ (.slice none 0 0)).setCell ⟨w.heap.size, 8, none⟩ (.string ⟨#[]⟩)) = W9) := hW9.symm
        clear hW9 b9
        have hbl := F6.bel
        clear F6 F8 hbx hre q8 hb6 hb8
        go_wp2
        rw [H9.out]
        refine bodyPost_ret (v := .tuple #[.agg #[.int .i64 0, .string ⟨#[]⟩, .bool false, .slice none 0 0, .int .i64 0, .int .i64 0, .int .i64 0, .slice none 0 0, .string ⟨#[]⟩], .int .i64 (chk m : Int)]) (by simp [results, Tryd.results15, go_sem, y0, y1, y2, y3, y4, y5, y6, y7, y8]) rfl ⟨none, 0, none, 0, by rw [HR.out]; rfl, ?_, ?_, ?_⟩
        · rw [HR.out]; exact in_nil
        · rw [HR.out]; exact in_nil
        · exact below_sets hbl n9 e9.1 e9.2.1 e9.2.2 o9
    · have HR : Hid (rdM s.data.toList = (mg0, dn st2)) := (by rw [HF.out]; unfold fin; rw [if_neg hd] : rdM s.data.toList = (mg0, dn st2))
      have hne := bne_t (show ¬ (dn st2 : Int) = 0 by omega)
      generalize dn st2 = dd at *
      go_wp2_with fail
      refine (cd _).mono ?_
      rintro e w6 ⟨rfl, hb6⟩
      have F6 := F.out.below hb6
      have hre := F6.res
      obtain ⟨z0, z1, z2, z3, z4', z5, z6, z7', z8⟩ := cells9 hre
      have zf := frozen9 hre
      have zl := lt_of_block hre
      obtain ⟨W9, hW9⟩ : ∃ W9, W9 = sets9 w6 w.heap.size (.int .i64 0) (.string ⟨#[]⟩) (.bool false) (.slice none 0 0) (.int .i64 0) (.int .i64 0) (.int .i64 0) (.slice none 0 0) (.string ⟨#[]⟩) := ⟨_, rfl⟩
      have b9 : W9.heap[w.heap.size]? = _ := (congrArg (fun W : World => W.heap[w.heap.size]?) hW9).trans (sets9_box hre)
      obtain ⟨y0, y1, y2, y3, y4, y5, y6, y7, y8⟩ := cells9 b9
      have o9 : ∀ k, k ≠ w.heap.size → W9.heap[k]? = w6.heap[k]? := fun k hk => by rw [hW9]; exact sets9_other hk
      have n9 : w6.heap.size ≤ W9.heap.size := by rw [hW9, sets9_size]; exact Nat.le_refl _
      have e9 : W9.os = w6.os ∧ W9.tape = w6.tape ∧ W9.output = w6.output := by rw [hW9]; exact sets9_rest
      have H9 : Hid ((((((((((w6.setCell ⟨w.heap.size, 0, none⟩ (.int .i64 0)).setCell ⟨w.heap.size, 1, none⟩ (.string ⟨#[]⟩)).setCell ⟨w.heap.size, 2, none⟩ (.bool false)).setCell ⟨w.heap.size, 3, none⟩ (.slice none 0 0)).setCell ⟨w.heap.size, 4, none⟩ (.int .i64 0)).setCell ⟨w.heap.size, 5, none⟩ (.int .i64 0)).setCell ⟨w.heap.size, 6, none⟩ (.int .i64 0)).setCell ⟨w.heap.size, 7, none⟩ (.slice none 0 0)).setCell ⟨w.heap.size, 8, none⟩ (.string ⟨#[]⟩)) = W9) := hW9.symm
      clear hW9 b9
      have hbl := F6.bel
      clear F6 hre hb6 cd t0 t1 t2 tl q4
      go_wp2
      rw [H9.out]
      refine bodyPost_ret (v := .tuple #[.agg #[.int .i64 0, .string ⟨#[]⟩, .bool false, .slice none 0 0, .int .i64 0, .int .i64 0, .int .i64 0, .slice none 0 0, .string ⟨#[]⟩], .int .i64 (dd : Int)]) (by simp [results, Tryd.results15, go_sem, y0, y1, y2, y3, y4, y5, y6, y7, y8]) rfl ⟨none, 0, none, 0, by rw [HR.out]; rfl, ?_, ?_, ?_⟩
      · rw [HR.out]; exact in_nil
      · rw [HR.out]; exact in_nil
      · exact below_sets hbl n9 e9.1 e9.2.1 e9.2.2 o9
end Go.Proofs.YtakfinccoffplaaDoor
