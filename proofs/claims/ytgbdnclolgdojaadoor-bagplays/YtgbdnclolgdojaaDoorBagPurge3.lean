/- slices.DeleteFunc of the packets to an address; bag.Purge. -/
import Derived.Test.YtgbdnclolgdojaaDoorBagPurge2
namespace Go.Proofs.YtgbdnclolgdojaaDoor
open Go.ChangeShapes Go.WideShapes Go.ChangeAt Go.RowKit
set_option linter.unusedVariables false

theorem index_empty (a : Option Addr) (c : Nat) (f : Value) (w : World) :
    Calls Tryd.prog 55 #[.slice a 0 c, f] w fun e w' => e = .returned (.int .i64 (-1)) ∧ w' = w := by
  go_enter Tryd.func55, Tryd.ntmps55
  go_wp2
  refine wp_loop_rounds 1 ?_
  rw [rounds_succ]
  go_wp2
  go_ret
  exact ⟨rfl, rfl⟩

set_option maxHeartbeats 2000000 in
set_option maxRecDepth 100000 in
theorem delfunc_any (B : Nat) (v : Value) (bt : Nat) (to' : Int) (ps : List Pk) (w : World) (hrow : w.ownsRow B 41 4 v ps.length (ps.flatMap Pk.cells)) (hbig : ps.length ≤ 4000) (hlt : bt < w.heap.size) (h : w.cell? ⟨bt, 0, none⟩ = some (.int .i64 to')) (hne : v.ownBlock ≠ some bt) :
    Calls Tryd.prog 37 #[v, .func (.func 38) #[] #[.pointer (some ⟨bt, 0, none⟩)]] w
      fun e w' => ∃ v', e = .returned v' ∧ w'.ownsRow B 41 4 v' (ps.filter (keep to')).length ((ps.filter (keep to')).flatMap Pk.cells) ∧ w.grownBy w' v.ownBlock ∧ v'.ownBlock = v.ownBlock ∧ ∃ a c, v' = .slice a (ps.filter (keep to')).length c := by
  rcases pkrow_of hrow with ⟨a, c, rfl, rfl⟩ | ⟨gg, c, hv, hBg, hpos, R, hob⟩
  · have HR : Hid _ := hrow
    clear hrow
    go_enter Tryd.func37, Tryd.ntmps37
    go_wp2_with fail
    refine (index_empty a c _ w).mono ?_
    rintro e w1 ⟨rfl, hw1⟩
    rw [hw1]
    clear hw1
    go_wp2
    go_ret
    exact ⟨_, rfl, HR.out, ⟨rfl, rfl, rfl, Nat.le_refl _, fun _ _ _ => rfl⟩, rfl, a, c, rfl⟩
  · have hidx := index_any gg ps.length c bt to' ps w rfl hbig R hlt h
    rw [hob]
    have HR : Hid (w.ownsRow B 41 4 v ps.length (ps.flatMap Pk.cells) ∧ PkRow w gg ps) := ⟨hrow, R⟩
    obtain ⟨n, hn⟩ : ∃ n, n = ps.length := ⟨_, rfl⟩
    rw [← hn] at hidx hv hpos hbig
    have HN : Hid (n = ps.length) := hn
    subst hv
    have hggbt : gg ≠ bt := by simpa [Value.ownBlock] using hne
    rcases hrow.2 with ⟨_, h0⟩ | ⟨g2, cap, cur, hv2, hB, hg, hnc, hcm, hcs, htake⟩
    · rw [← hn] at h0; omega
    simp only [Value.slice.injEq, Option.some.injEq, Addr.mk.injEq, and_true] at hv2
    obtain ⟨rfl, hxx, rfl⟩ := hv2
    clear hxx
    unfold maxLen at hcm
    rw [← hn] at hnc
    have hglt := lt_of_block hg
    have HC : Hid (w.heap[gg]? = some (.cells cur 41 (0, 0)) ∧ cur.size = c * 4 ∧ B ≤ gg ∧ ∀ t, t < ps.length → RowC cur t (ps.getD t pk0)) := by
      refine ⟨hg, hcs, hB, fun t ht => ?_⟩
      have e0 := R.c0 t ht
      have e1 := R.c1 t ht
      have e2 := R.c2 t ht
      have e3 := R.c3 t ht
      simp only [World.cell?, hg] at e0 e1 e2 e3
      exact ⟨by simpa using e0, by simpa using e1, by simpa using e2, by simpa using e3⟩
    have eg := enter_purge1
    have hv0 : ∀ w, (zeroValue 41).run Tryd.prog w = .ok (.agg #[.int .i64 0, .int .i64 0, .int .i64 0, .string ByteArray.empty]) w := fun w => by
      obtain ⟨i0, hi, hz0, hz1, hz2⟩ := info_parts Tryd.infoPk
      simp [zeroValue, typeInfo, hi, hz0]
    have HV : Hid _ := hv0
    clear hrow R hn hg hcs htake hv0 hob hne
    go_enter Tryd.func37, Tryd.ntmps37
    go_wp2_with fail
    refine hidx.mono ?_
    rintro e w1 ⟨hor, hb1⟩
    rcases hor with ⟨rfl, hall⟩ | ⟨r, hr, rfl, hrd, hrl⟩
    · have HA : Hid (∀ t, t < n → (ps.getD t pk0).dst ≠ to') := hall
      have HB1 : Hid _ := hb1
      clear hall hb1 hidx
      go_wp2
      go_ret
      have ef : ps.filter (keep to') = ps := by
        have := take_all_kept to' ps ps.length (Nat.le_refl _) (by rw [← HN.out]; exact HA.out)
        rwa [List.take_length] at this
      rw [ef]
      have hb := HB1.out
      refine ⟨_, rfl, ?_, ⟨hb.os, hb.tape, hb.output, hb.size, fun k hk _ => hb.block k hk⟩, rfl, some ⟨gg, 0, none⟩, c, by rw [HN.out]; rfl⟩
      have := HR.out.1
      rcases this.2 with ⟨h0, _⟩ | ⟨g', cap', cur', hv', hbg, hg', hrest⟩
      · cases h0
      · exact ⟨this.1, .inr ⟨g', cap', cur', hv', hbg, (hb.block g' (lt_of_block hg')).trans hg', hrest⟩⟩
    · have HD : Hid (DI w w1 gg c ps to' r (r + 1) cur) := by
        have hrl' : r < ps.length := by rw [← HN.out]; exact hr
        have e1 : (ps.take (r + 1)).filter (keep to') = ps.take r := by
          rw [keep_step to' ps r hrl', if_pos hrd, List.append_nil, take_all_kept to' ps r (by omega) hrl]
        have hb := hb1
        refine ⟨(hb.block gg hglt).trans HC.out.1, HC.out.2.1, by rw [e1, List.length_take]; omega, fun t ht => ?_, fun t ht hn' => HC.out.2.2.2 t hn', ⟨hb.os, hb.tape, hb.output, hb.size, fun k hk _ => hb.block k hk⟩⟩
        have e2 : (ps.take r).getD t pk0 = ps.getD t pk0 := by simp [List.getD, List.getElem?_take_of_lt ht]
        rw [e1, e2]
        exact HC.out.2.2.2 t (by omega)
      have hrm : ((r : Int) == -1) = false := by simp
      clear hb1 hidx hrd hrl
      go_wp2
      go_loopw [5, 6] (fun x y wr => ∃ (i j : Nat) (cur' : Array Value), x = .int .i64 i ∧ y = .int .i64 j ∧ i < j ∧ j ≤ n ∧ Hid (DI w wr gg c ps to' i j cur')) (fun _ y _ => n - (intOf y).toNat)
      case atStart => exact ⟨r, r + 1, cur, rfl, by go_num, by omega, by omega, HD⟩
      case round =>
        obtain ⟨i, j, cur', rfl, rfl, hij, hj, HI⟩ := hrel
        by_cases hlt2 : j < n
        · have hjl : j < ps.length := by rw [← HN.out]; exact hlt2
          have hj0 : (0 : Int) ≤ (j : Int) := Int.natCast_nonneg _
          have hj1 : (j : Int) < (n : Int) := by omega
          have hi0 : (0 : Int) ≤ (i : Int) := Int.natCast_nonneg _
          have hi1 : (i : Int) < (n : Int) := by omega
          obtain ⟨s0, s1, s2, s3⟩ := HI.out.cells j (Nat.le_refl _) hjl
          have hsz := HI.out.grown.size
          have hbc : wr.cell? ⟨bt, 0, none⟩ = some (.int .i64 to') := (HI.out.grown.cell_far ⟨bt, 0, none⟩ hlt (by simpa using hggbt.symm)).trans h
          obtain ⟨q, hq⟩ : ∃ q, q = ps.getD j pk0 := ⟨_, rfl⟩
          rw [← hq] at s0 s1 s2 s3
          have HQ : Hid (q = ps.getD j pk0) := hq
          have hcall := purge1_any q bt to' (wr.alloc (.cells #[.int .i64 q.id, .int .i64 q.src, .int .i64 q.dst, .string q.s] 41)) ((((Below.refl wr.heap.size wr).alloc (Nat.le_refl _) _).cell (p := ⟨bt, 0, none⟩) (by show bt < _; omega)).trans hbc) (by simp; omega)
          clear hq
          by_cases hd : q.dst = to'
          · have hd' : (q.dst == to') = true := by simpa using hd
            rw [hd'] at hcall
            have HDD : Hid (q.dst = to') := hd
            clear hd hd'
            go_wp2_with fail
            refine hcall.mono ?_
            rintro e w2 ⟨rfl, hb2⟩
            have H2 : Hid (DI w w2 gg c ps to' i (j + 1) cur') := ((HI.out.below ((Below.refl _ _).alloc (Nat.le_refl _) _)).below hb2).skip hjl (by rw [← HQ.out]; exact HDD.out)
            clear hb2 hcall
            go_wp2
            go_roundw
            case rel => exact ⟨i, j + 1, cur', rfl, by go_num, by omega, by omega, H2⟩
            case measure => simp [intOf]; omega
          · have hd' : (q.dst == to') = false := by simpa using hd
            rw [hd'] at hcall
            have HDD : Hid (q.dst ≠ to') := hd
            clear hd hd'
            go_wp2_with fail
            refine hcall.mono ?_
            rintro e w2 ⟨rfl, hb2⟩
            have h2 := (HI.out.below ((Below.refl _ _).alloc (Nat.le_refl _) (.cells #[.int .i64 q.id, .int .i64 q.src, .int .i64 q.dst, .string q.s] 41))).below hb2
            have hc2 := h2.copy hjl hij (by rw [← HN.out]; exact hnc) (by rw [← HQ.out]; exact HDD.out)
            rw [← HQ.out] at hc2
            have hss := h2.size
            have hbk := h2.blk
            obtain ⟨x0, y0⟩ : ∃ x, w2.cell? ⟨gg, i * 4, none⟩ = some x := ⟨cur'[i * 4]'(by omega), by simp [World.cell?, hbk, Array.getElem?_eq_getElem (show i * 4 < cur'.size by omega)]⟩
            obtain ⟨x1, y1⟩ : ∃ x, w2.cell? ⟨gg, i * 4 + 1, none⟩ = some x := ⟨cur'[i * 4 + 1]'(by omega), by simp [World.cell?, hbk, Array.getElem?_eq_getElem (show i * 4 + 1 < cur'.size by omega)]⟩
            obtain ⟨x2, y2⟩ : ∃ x, w2.cell? ⟨gg, i * 4 + 2, none⟩ = some x := ⟨cur'[i * 4 + 2]'(by omega), by simp [World.cell?, hbk, Array.getElem?_eq_getElem (show i * 4 + 2 < cur'.size by omega)]⟩
            obtain ⟨x3, y3⟩ : ∃ x, w2.cell? ⟨gg, i * 4 + 3, none⟩ = some x := ⟨cur'[i * 4 + 3]'(by omega), by simp [World.cell?, hbk, Array.getElem?_eq_getElem (show i * 4 + 3 < cur'.size by omega)]⟩
            have hfz : ∀ o, w2.frozen? ⟨gg, o, none⟩ = false := fun o => by simp [World.frozen?, hbk]
            have hgl2 := lt_of_block hbk
            have hP := (hb2.block wr.heap.size (by simp)).trans (heap_alloc_new wr _)
            obtain ⟨d0, d1, d2, d3, df⟩ := four_block hP
            have hPl := lt_of_block hP
            have H2 : Hid _ := hc2
            clear hb2 hcall hP hbk hss hc2 h2
            go_wp2
            go_roundw
            case rel => exact ⟨i + 1, j + 1, _, by go_num, by go_num, by omega, by omega, H2⟩
            case measure => simp [intOf]; omega
        · obtain rfl : j = n := by omega
          have hI := HI.out
          have hjn : j = ps.length := HN.out
          have ei : i = (ps.filter (keep to')).length := by have := hI.at'; rwa [hjn, List.take_length] at this
          have elow : ∀ t, t < i → RowC cur' t ((ps.filter (keep to')).getD t pk0) := by have := hI.low; rwa [hjn, List.take_length] at this
          have hss := hI.size
          have htk : cur'.toList.take (i * 4) = (ps.filter (keep to')).flatMap Pk.cells := by
            rw [ei] at elow ⊢
            exact rowc_take cur' _ (by rw [← ei, hss]; omega) elow
          obtain ⟨zz, hzz⟩ : ∃ zz, zz = (Builtin.zeroCells #[Value.int .i64 0, .int .i64 0, .int .i64 0, .string ByteArray.empty] (j - i)).toList := ⟨_, rfl⟩
          have hzl : zz.length = (j - i) * 4 := by rw [hzz, Array.length_toList, size_zeroCells]; rfl
          obtain ⟨cur2, hcur2⟩ : ∃ cc : Array Value, cc = (cur'.toList.take (i * 4) ++ zz ++ cur'.toList.drop (i * 4 + (j - i) * 4)).toArray := ⟨_, rfl⟩
          obtain ⟨w2, hw2⟩ : ∃ w2, w2 = wr.setRow gg cur2 := ⟨_, rfl⟩
          have hcl : (Builtin.clear_ #[23] 0 #[.slice (some ⟨gg, i * 4, none⟩) (j - i) (c - i)]).run Tryd.prog wr = .ok (.tuple #[]) w2 := by
            rw [hw2, hcur2, hzz]
            exact run_clear_row wr _ _ _ _ #[Value.int .i64 0, .int .i64 0, .int .i64 0, .string ByteArray.empty] Tryd.underlying23 HV.out rfl (by simp [Value.oneCell']) gg (i * 4) (j - i) (c - i) cur' hI.blk (by omega) (by rw [hss]; simp; omega)
          have HF : Hid (w2.ownsRow B 41 4 (.slice (some ⟨gg, 0, none⟩) i c) i ((ps.filter (keep to')).flatMap Pk.cells) ∧ w.grownBy w2 (some gg) ∧ i = (ps.filter (keep to')).length) := by
            refine ⟨⟨?_, .inr ⟨gg, c, cur2, rfl, HC.out.2.2.1, ?_, by omega, by unfold maxLen; omega, ?_, ?_⟩⟩, ?_, ei⟩
            · rw [flat_len Pk.cells 4 Pk.cells_len, ← ei]
            · rw [hw2]; exact setRow_heap wr gg cur' _ _ _ hI.blk
            · rw [hcur2]; simp only [List.size_toArray, List.length_append, List.length_take, List.length_drop, Array.length_toList, hss, hzl]; omega
            · rw [hcur2]
              rw [List.append_assoc, List.take_append_of_le_length (by rw [List.length_take, Array.length_toList, hss]; omega), List.take_take, Nat.min_self]; exact htk
            · have g := hI.grown
              rw [hw2]; exact ⟨g.os, g.tape, g.output, by simp; exact g.size, fun k hk hr => (setRow_other _ gg k _ (fun e => hr (by rw [e]))).trans (g.block k hk hr)⟩
          have hi0 : (0 : Int) ≤ (i : Int) := Int.natCast_nonneg _
          have hi1 : (i : Int) ≤ (j : Int) := by omega
          have hi2 : i ≤ c := by omega
          have hi3 : (i : Int) ≤ (c : Int) := by omega
          have hi4 : ¬ c = i := by omega
          clear hI ei elow hss htk hzz hzl hcur2 hw2 hjn HI HD
          go_wp2
          go_ret
          exact ⟨_, rfl, by rw [← HF.out.2.2]; exact HF.out.1, HF.out.2.1, rfl, some ⟨gg, 0, none⟩, c, by rw [← HF.out.2.2]; rfl⟩

/-- Behind the deletions and the store. -/
theorem BagAt.purged {B : Nat} {w w1 : World} {p : Nat} {v v' : Value} {g : Bg} {to' : Int} (h : BagAt B w p v g)
    (hrow : w1.ownsRow B 41 4 v' (g.ps.filter (keep to')).length ((g.ps.filter (keep to')).flatMap Pk.cells)) (hg : w.grownBy w1 v.ownBlock) (ho : v'.ownBlock = v.ownBlock) :
    BagAt B (w1.setCell ⟨p, 0, none⟩ v') p v' (g.purge to') ∧ Kept w (w1.setCell ⟨p, 0, none⟩ v') p v v' ∧ w1.heap[p]? = some (.cells #[v, .int .i64 g.last] 25 (0, 0)) := by
  have hb : w1.heap[p]? = some (.cells #[v, .int .i64 g.last] 25 (0, 0)) := (hg.block p h.lt (fun e => h.apart e.symm)).trans h.box
  have hap : v'.ownBlock ≠ some p := by rw [ho]; exact h.apart
  refine ⟨⟨h.lo, two_set0 hb v', ?_, hap⟩, ⟨hg.os, hg.tape, hg.output, by simp [World.setCell]; exact hg.size, fun j hj hjp hjv => ?_, fun j hj => .inl (by rw [← ho]; exact hj)⟩, hb⟩
  · exact ownsRow_setCell_other hrow (a := ⟨p, 0, none⟩) hap v'
  · rw [Below.heap_setCell _ _ _ _ (by simpa using hjp)]
    exact hg.block j hj hjv

set_option maxRecDepth 100000 in
theorem purge_any (B p : Nat) (v : Value) (g : Bg) (to' : Int) (w : World) (h : BagAt B w p v g) (hok : g.ok) :
    Calls Tryd.prog 16 #[.pointer (some ⟨p, 0, none⟩), .int .i64 to'] w
      fun e w' => e = .returned (.int .i64 ((g.ps.length : Int) - ((g.purge to').ps.length : Int))) ∧ ∃ v', BagAt B w' p v' (g.purge to') ∧ Kept w w' p v v' := by
  have hplt := h.lt
  have hlen := hok.len
  have hfl : (g.purge to').ps.length ≤ g.ps.length := List.length_filter_le _ _
  have hap := h.apart
  have hA := h.alloc (.cells #[.int .i64 to'] 3)
  have hnb : v.ownBlock ≠ some w.heap.size := fun e => by have := (h.row.lt _ e).2; omega
  obtain ⟨a, c, rfl⟩ := h.shape
  have hd := delfunc_any B _ w.heap.size to' g.ps _ hA.row hlen (by simp) (by simp [World.cell?_alloc_new]) hnb
  have hc0 := two_c0 h.box
  have hmf : ∀ (fn : Fn) (first cap : Array Value) (w : World), (Instr.makeFunc fn first cap).run Tryd.prog w = .ok (.func fn first cap) w := fun _ _ _ _ => rfl
  have HA : Hid _ := hA
  have HN : Hid ((g.purge to').ps.length = (g.ps.filter (keep to')).length) := rfl
  clear hA h
  go_enter Tryd.func16, Tryd.ntmps16
  go_wp2_with fail
  refine hd.mono ?_
  rintro e w1 ⟨v', rfl, hrow, hgr, ho, a', c', hv'⟩
  obtain ⟨hB, hK, hbx⟩ := HA.out.purged hrow hgr ho
  have e0 := two_c0 hbx
  have ef := two_free hbx
  have hl1 := lt_of_block hbx
  rw [← HN.out] at hv'
  have HX : Hid (BagAt B (w1.setCell ⟨p, 0, none⟩ v') p v' (g.purge to') ∧ Kept w (w1.setCell ⟨p, 0, none⟩ v') p (.slice a g.ps.length c) v') := ⟨hB, (Kept.ofBelow ((Below.refl _ _).alloc (Nat.le_refl _) _)).trans hK⟩
  subst hv'
  clear hB hK hbx hrow hgr ho hd
  go_wp2
  go_ret
  exact ⟨rfl, _, HX.out⟩
end Go.Proofs.YtgbdnclolgdojaaDoor
