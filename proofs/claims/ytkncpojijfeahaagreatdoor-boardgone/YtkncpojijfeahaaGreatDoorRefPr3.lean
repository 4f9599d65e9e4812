/- The document's reader (wigwagref06): pred, walked: another word than in; all ways together. -/
import Derived.Test.YtkncpojijfeahaaGreatDoorRefPr2
namespace Go.Proofs.YtkncpojijfeahaaGreatDoor
open Go.ChangeShapes Go.WideShapes Go.ChangeAt Go.RowKit
set_option linter.unusedVariables false
set_option linter.unusedSimpArgs false

theorem bcellP {W w1 : World} (hb : Below W.heap.size W w1) : (∀ b o, b < W.heap.size → w1.cell? ⟨b, o, none⟩ = W.cell? ⟨b, o, none⟩) ∧ (∀ b o, b < W.heap.size → w1.frozen? ⟨b, o, none⟩ = W.frozen? ⟨b, o, none⟩) :=
  ⟨fun b o h => hb.cell (p := ⟨b, o, none⟩) h, fun b o h => hb.frozen (p := ⟨b, o, none⟩) h⟩

set_option maxRecDepth 100000 in
set_option maxHeartbeats 8000000 in
theorem rpred_f (s : ByteArray) (k : Nat) (w : World) (hk : k ≤ s.size) (hs : s.size ≤ 1000) (nm r : List UInt8) (hres : rWord (dr s k) = .ok nm r) (n2 : Nat) (hn2 : n2 = nb s (pos s r)) (hlt : n2 < s.size) (hc1 : ¬ (s[n2].toNat : Int) = 61) (hc2 : ¬ (s[n2].toNat : Int) = 94) (v r3 : List UInt8) (hw2 : rWord (dr s n2) = .ok v r3) (hne : v ≠ [105, 110]) : Calls Tryz.prog 87 #[.agg #[.string s, .int .i64 (k : Int), .bool false]] w fun e w' => PrAns e s (rPred (dr s k)) ∧ Below w.heap.size w w' := by
  have HS : Hid _ := Pq.init w s k false
  have HWD : Hid _ := fun W => rword_any s k false W hk hs
  have hws := rWord_suf (dr s k)
  rw [hres] at hws
  obtain ⟨n1, hn1⟩ : ∃ n1, n1 = pos s r := ⟨_, rfl⟩
  have hd1 : dr s n1 = r := by rw [hn1]; exact dr_posd hws
  have hl1 : n1 ≤ s.size := by rw [hn1]; exact pos_le _ _
  have e1 : wAft s k false = (n1, false, ba nm) := by unfold wAft; simp [hres, hn1, Ps.isBad, Ps.left, wdV]
  rw [e1] at HWD
  have HBK : Hid _ := fun W => rblanks_f s n1 W hl1 hs
  have hn2d := nb_dr s n1
  have hn2l := nb_le s n1
  rw [hd1] at hn2d
  rw [hn1, ← hn2] at hn2d hn2l
  have HBK2 : Hid (∀ W, Calls Tryz.prog 88 #[.agg #[.string s, .int .i64 (n1 : Int), .bool false]] W fun e w' => e = .returned (.agg #[.string s, .int .i64 (n2 : Int), .bool false]) ∧ Below W.heap.size W w') := by rw [Hid, hn2, ← hn1]; exact HBK.out
  clear HBK
  have HBK := HBK2
  clear HBK2
  have HN2 : Hid (dr s n2 = r.dropWhile isBlank) := hn2d
  have HRW : Hid (rWord (dr s k) = .ok nm r) := hres
  obtain ⟨k3, hk3⟩ : ∃ k3, k3 = pos s r3 := ⟨_, rfl⟩
  have hm3 : wAft s n2 false = (k3, false, ba v) := by unfold wAft; simp [hw2, hk3, Ps.isBad, Ps.left, wdV]
  have HW3 : Hid _ := fun W => rword_any s n2 false W hn2l hs
  rw [hm3] at HW3
  have HANS : Hid (PrAns (.returned (.tuple #[.agg #[.string s, .int .i64 (n2 : Int), .bool true], .agg #[.string (ba nm), .int .i64 0, .int .i64 0, .int .i64 0, .string ⟨#[]⟩]])) s (rPred (dr s k))) := by
    have e : rPred (dr s k) = rAsk nm (dr s n2) := by
      unfold rPred rBegin; rw [hres]; simp only; rw [← HN2.out, dr_cons s n2 hlt]
    have e2 : rAsk nm (dr s n2) = match rNums (dr s n2) with
        | .ok v r' => .ok ⟨nm, 1, v.1, v.2, []⟩ r'
        | .fail e r' => .fail e r' := by
      rw [dr_cons s n2 hlt]; unfold rAsk; simp only; rw [if_neg (by omega), if_neg (by omega)]; rfl
    rw [e2] at e
    have e3 : rNums (dr s n2) = .fail false (dr s n2) := by
      unfold rNums rThis; rw [hw2]; simp only; rw [if_neg hne]
      have := word_app hw2
      rw [HN2.out, dw_dw] at this
      rw [HN2.out, this]
    rw [e3] at e
    rw [Hid, e]
    exact PrAns.mk _ _ _ _ _ (pos_dr hn2l).symm rfl (fun _ _ h => by cases h)
  have hx1 : (ba v).toList ≠ [105, 110] := by rw [ba_tl]; exact hne
  have hx2 : ((ba v).toList == [105, 110]) = false := by simpa using hx1
  generalize ba v = wd at HW3 hx1 hx2
  clear hm3 hk3 hw2 hne
  clear hn1 hd1 e1 hres hws hn2d hn2
  generalize ba nm = NMB at *
  go_enter Tryz.func87, Tryz.ntmps87
  go_wp2_with fail
  refine Calls.mono (HWD.out _) ?_
  rintro e W1 ⟨rfl, b1⟩
  have S1 : Hid (Sp w W1 s k false) := HS.out.1.below b1
  have O1 : Hid _ := (b1.block _ (lt_of_block HS.out.2)).trans HS.out.2
  obtain ⟨c0, c1, c2, cf, cl, d0, d1, d2, df, dl⟩ := S1.out.cells
  clear b1 HS HWD
  go_wp2_with fail
  refine Calls.mono (HBK.out _) ?_
  rintro e W2 ⟨rfl, b2⟩
  have S2 : Hid (Sp w W2 s n1 false) := (S1.out.set3 n1 false).below b2
  have O2 : Hid _ := out2_carry O1.out b2
  clear c0 c1 c2 cf cl d0 d1 d2 df dl b2 S1 O1 HBK
  obtain ⟨c0, c1, c2, cf, cl, d0, d1, d2, df, dl⟩ := S2.out.cells
  go_upto_region 4 with fail
  obtain ⟨V, hV⟩ : ∃ V, V = ((((W2.setCell ⟨w.heap.size, 0, none⟩ (.string s)).setCell ⟨w.heap.size, 1, none⟩ (.int .i64 (n2 : Int))).setCell ⟨w.heap.size, 2, none⟩ (.bool false)).alloc (.cells #[.string NMB, .int .i64 0, .int .i64 0, .int .i64 0, .string ⟨#[]⟩] 160)) := ⟨_, rfl⟩
  rw [← hV]
  have PV : Hid (Pq w V s n2 false W2.heap.size #[.string NMB, .int .i64 0, .int .i64 0, .int .i64 0, .string ⟨#[]⟩]) := by rw [Hid, hV]; exact Pq.at4 S2.out O2.out n2 false _
  clear hV S2 O2 c0 c1 c2 cf cl d0 d1 d2 df dl
  generalize W2.heap.size = X at PV ⊢
  obtain ⟨c0, c1, c2, cf, cl, d0, d1, d2, df, dl⟩ := PV.out.sp.cells
  obtain ⟨x0, x1, x2, x3, x4, xf, xl⟩ := fiveP PV.out.xb
  obtain ⟨y0, y1, y2, y3, y4, yf, yl⟩ := fiveP PV.out.o2
  have g1 : ((s[n2].toNat : Int) == 61) = false := by simpa using hc1
  have g2 : ((s[n2].toNat : Int) == 94) = false := by simpa using hc2
  clear hc1 hc2
  go_wp2_with fail
  refine Calls.mono (HW3.out _) ?_
  rintro e W3 ⟨rfl, b3'⟩
  have PV3 : Hid _ := PV.out.below b3'
  clear b3' HW3 PV c0 c1 c2 cf cl d0 d1 d2 df dl x0 x1 x2 x3 x4 xf xl y0 y1 y2 y3 y4 yf yl
  obtain ⟨c0, c1, c2, cf, cl, d0, d1, d2, df, dl⟩ := PV3.out.sp.cells
  go_upto_region 18 with fail
  obtain ⟨V, hV⟩ : ∃ V, V = W3.alloc (.cells #[.string s, .int .i64 (k3 : Int), .bool false] 196) := ⟨_, rfl⟩
  have PV : Hid (Pq w V s n2 false X #[.string NMB, .int .i64 0, .int .i64 0, .int .i64 0, .string ⟨#[]⟩]) := by rw [Hid, hV]; exact PV3.out.below ((Below.refl _ _).alloc (Nat.le_refl _) _)
  have QV : Hid (V.heap[W3.heap.size]? = some (.cells #[.string s, .int .i64 (k3 : Int), .bool false] 196 (0, 0))) := by rw [Hid, hV]; exact heap_alloc_new W3 _
  rw [← hV]
  have hQ3 : w.heap.size + 3 ≤ W3.heap.size := by have := lt_of_block PV3.out.o2; omega
  generalize W3.heap.size = Q at QV hQ3 ⊢
  clear hV PV3 c0 c1 c2 cf cl d0 d1 d2 df dl
  obtain ⟨c0, c1, c2, cf, cl, d0, d1, d2, df, dl⟩ := PV.out.sp.cells
  obtain ⟨x0, x1, x2, x3, x4, xf, xl⟩ := fiveP PV.out.xb
  obtain ⟨y0, y1, y2, y3, y4, yf, yl⟩ := fiveP PV.out.o2
  obtain ⟨q0, q1, q2, qf, ql⟩ := threeP QV.out
  have xn := PV.out.xl
  have n1 : ¬ X = w.heap.size := by omega
  have n2' : ¬ X = w.heap.size + 1 := by omega
  have n3 : ¬ X = w.heap.size + 1 + 1 := by omega
  have n4 : ¬ w.heap.size = X := by omega
  have n5 : ¬ w.heap.size + 1 = X := by omega
  have n6 : ¬ w.heap.size + 1 + 1 = X := by omega
  have n7 : ¬ w.heap.size + 1 + 1 = w.heap.size := by omega
  have n8 : ¬ w.heap.size = w.heap.size + 1 + 1 := by omega
  have m1 : ¬ Q = w.heap.size + 1 + 1 := by omega
  have m2 : ¬ w.heap.size + 1 + 1 = Q := by omega
  clear xn
  have HBL : Hid (Below w.heap.size w V) := PV.out.sp.bel
  go_region_with ((go_at_call 104; refine Calls.mono (rbad_f s k3 n2 _) ?_; rintro e W4 ⟨rfl, b4⟩; have P4 : Hid (Pq w W4 s n2 false X #[.string NMB, .int .i64 0, .int .i64 0, .int .i64 0, .string ⟨#[]⟩]) := PV.out.below (W' := W4) ⟨b4.os, b4.tape, b4.output, b4.size, b4.block⟩; obtain ⟨k0, k1, k2, kf, kl, ad0, ad1, ad2, af1, al1⟩ := P4.out.sp.cells; obtain ⟨ax0, ax1, ax2, ax3, ax4, axf, axl⟩ := fiveP P4.out.xb; obtain ⟨ay0, ay1, ay2, ay3, ay4, ayf, ayl⟩ := fiveP P4.out.o2; have HB4 : Hid (Below w.heap.size w W4) := P4.out.sp.bel; clear b4 P4))
  all_goals
    go_wp2_with fail
    refine bodyPost_ret (v := .tuple #[.agg #[.string s, .int .i64 (n2 : Int), .bool true], .agg #[.string NMB, .int .i64 0, .int .i64 0, .int .i64 0, .string ⟨#[]⟩]]) (by simp [results, Tryz.results87, go_sem, *]) rfl ⟨HANS.out, ?_⟩
    repeat (refine Below.setCell ?_ (by simp; try omega) _)
    exact HB4.out

theorem rpred_any (s : ByteArray) (k : Nat) (w : World) (hk : k ≤ s.size) (hs : s.size ≤ 1000) : Calls Tryz.prog 87 #[.agg #[.string s, .int .i64 (k : Int), .bool false]] w fun e w' => PrAns e s (rPred (dr s k)) ∧ Below w.heap.size w w' := by
  cases hres : rWord (dr s k) with
  | fail ee r => exact rpred_a s k w hk hs ee r hres
  | ok nm r =>
    obtain ⟨n2, hn2⟩ : ∃ n2, n2 = nb s (pos s r) := ⟨_, rfl⟩
    by_cases hlt : n2 < s.size
    · by_cases h61 : (s[n2].toNat : Int) = 61
      · exact rpred_b s k w hk hs nm r hres n2 hn2 hlt h61
      · by_cases h94 : (s[n2].toNat : Int) = 94
        · exact rpred_c s k w hk hs nm r hres n2 hn2 hlt h94
        · cases hw : rWord (dr s n2) with
          | fail e' r' => exact rpred_e s k w hk hs nm r hres n2 hn2 hlt h61 h94 (Or.inl (by unfold wAft; simp [hw, Ps.isBad]))
          | ok v r3 =>
            by_cases hv : v = [105, 110]
            · exact rpred_e s k w hk hs nm r hres n2 hn2 hlt h61 h94 (Or.inr (by unfold wAft; subst hv; simp [hw, Ps.isBad, wdV]; rfl))
            · exact rpred_f s k w hk hs nm r hres n2 hn2 hlt h61 h94 v r3 hw hv
    · exact rpred_d s k w hk hs nm r hres n2 hn2 hlt (Or.inl (by
        have : rWord (dr s n2) = .fail true [] := by rw [dr_end s n2 (by omega)]; rfl
        unfold wAft; simp [this, Ps.isBad]))
end Go.Proofs.YtkncpojijfeahaaGreatDoor
