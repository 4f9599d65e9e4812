/- The document's reader (wigwagref06): pred, walked. -/
import Derived.Test.YtkncpojijfeahaaGreatDoorRefPr
namespace Go.Proofs.YtkncpojijfeahaaGreatDoor
open Go.ChangeShapes Go.WideShapes Go.ChangeAt Go.RowKit
set_option linter.unusedVariables false

theorem PrAns.mk {s : ByteArray} {r : Ps Pl} {K : Nat} {B : Bool} (nm st : ByteArray) (op lo hi : Int) (hK : K = pos s r.left) (hB : B = r.isBad) (hq : ∀ q' l, r = .ok q' l → q' = ⟨nm.data.toList, op, lo, hi, st.data.toList⟩) : PrAns (.returned (.tuple #[.agg #[.string s, .int .i64 (K : Int), .bool B], .agg #[.string nm, .int .i64 op, .int .i64 lo, .int .i64 hi, .string st]])) s r := by
  refine ⟨⟨nm.data.toList, op, lo, hi, st.data.toList⟩, ?_, hq⟩
  rw [hK, hB]
  simp only [ba_self6]
theorem below_drewP {B : Nat} {a w : World} (h : Below B a w) : Below B a w.drew := h.trans ⟨rfl, rfl, rfl, Nat.le_refl _, fun _ _ => rfl⟩
/-- The blocks where the predicate is made. -/
theorem Pq.at4 {w W : World} {s : ByteArray} {k0 : Nat} {b0 : Bool} (h : Sp w W s k0 b0) (ho : W.heap[w.heap.size + 1 + 1]? = some (.cells #[.string ⟨#[]⟩, .int .i64 0, .int .i64 0, .int .i64 0, .string ⟨#[]⟩] 160 (0, 0))) (k : Nat) (b : Bool) (x : Array Value) :
    Pq w ((((W.setCell ⟨w.heap.size, 0, none⟩ (.string s)).setCell ⟨w.heap.size, 1, none⟩ (.int .i64 (k : Int))).setCell ⟨w.heap.size, 2, none⟩ (.bool b)).alloc (.cells x 160)) s k b W.heap.size x := by
  have hlt := lt_of_block ho
  have o3 : (((W.setCell ⟨w.heap.size, 0, none⟩ (.string s)).setCell ⟨w.heap.size, 1, none⟩ (.int .i64 (k : Int))).setCell ⟨w.heap.size, 2, none⟩ (.bool b)).heap[w.heap.size + 1 + 1]? = some (.cells #[.string ⟨#[]⟩, .int .i64 0, .int .i64 0, .int .i64 0, .string ⟨#[]⟩] 160 (0, 0)) :=
    (Below.heap_setCell _ _ _ _ (by simp; omega)).trans ((Below.heap_setCell _ _ _ _ (by simp; omega)).trans ((Below.heap_setCell _ _ _ _ (by simp; omega)).trans ho))
  have hz : (((W.setCell ⟨w.heap.size, 0, none⟩ (.string s)).setCell ⟨w.heap.size, 1, none⟩ (.int .i64 (k : Int))).setCell ⟨w.heap.size, 2, none⟩ (.bool b)).heap.size = W.heap.size := by simp [World.setCell]
  refine ⟨(h.set3 k b).below ((Below.refl _ _).alloc (Nat.le_refl _) _), (Below.heap_alloc _ _ _ (lt_of_block o3)).trans o3, ?_, by omega⟩
  have := heap_alloc_new (((W.setCell ⟨w.heap.size, 0, none⟩ (.string s)).setCell ⟨w.heap.size, 1, none⟩ (.int .i64 (k : Int))).setCell ⟨w.heap.size, 2, none⟩ (.bool b)) (.cells x 160)
  rw [hz] at this
  exact this
theorem out2_carry {w W W' : World} {s : ByteArray} {n : Nat} {b : Bool} (ho : W.heap[w.heap.size + 1 + 1]? = some (.cells #[.string ⟨#[]⟩, .int .i64 0, .int .i64 0, .int .i64 0, .string ⟨#[]⟩] 160 (0, 0)))
    (hb : Below (((W.setCell ⟨w.heap.size, 0, none⟩ (.string s)).setCell ⟨w.heap.size, 1, none⟩ (.int .i64 (n : Int))).setCell ⟨w.heap.size, 2, none⟩ (.bool b)).heap.size (((W.setCell ⟨w.heap.size, 0, none⟩ (.string s)).setCell ⟨w.heap.size, 1, none⟩ (.int .i64 (n : Int))).setCell ⟨w.heap.size, 2, none⟩ (.bool b)) W') :
    W'.heap[w.heap.size + 1 + 1]? = some (.cells #[.string ⟨#[]⟩, .int .i64 0, .int .i64 0, .int .i64 0, .string ⟨#[]⟩] 160 (0, 0)) := by
  have h1 : (((W.setCell ⟨w.heap.size, 0, none⟩ (.string s)).setCell ⟨w.heap.size, 1, none⟩ (.int .i64 (n : Int))).setCell ⟨w.heap.size, 2, none⟩ (.bool b)).heap[w.heap.size + 1 + 1]? = some (.cells #[.string ⟨#[]⟩, .int .i64 0, .int .i64 0, .int .i64 0, .string ⟨#[]⟩] 160 (0, 0)) :=
    (Below.heap_setCell _ _ _ _ (by simp; omega)).trans ((Below.heap_setCell _ _ _ _ (by simp; omega)).trans ((Below.heap_setCell _ _ _ _ (by simp; omega)).trans ho))
  exact (hb.block _ (lt_of_block h1)).trans h1
theorem dw_dw (l : List UInt8) : (l.dropWhile isBlank).dropWhile isBlank = l.dropWhile isBlank := by
  induction l with
  | nil => rfl
  | cons c l ih =>
    by_cases h : isBlank c = true
    · rw [List.dropWhile_cons_of_pos h]; exact ih
    · rw [List.dropWhile_cons_of_neg h, List.dropWhile_cons_of_neg h]
theorem word_app {l v r : List UInt8} (h : rWord l = .ok v r) : l.dropWhile isBlank = v ++ r := by
  unfold rWord at h
  split at h
  · cases h
  · rename_i c q e
    split at h
    · cases h
      rw [List.takeWhile_append_dropWhile]; exact e
    · cases h

set_option maxRecDepth 100000 in
set_option maxHeartbeats 8000000 in
theorem rpred_a (s : ByteArray) (k : Nat) (w : World) (hk : k ≤ s.size) (hs : s.size ≤ 1000) (ee : Bool) (r : List UInt8) (hres : rWord (dr s k) = .fail ee r) : Calls Tryz.prog 87 #[.agg #[.string s, .int .i64 (k : Int), .bool false]] w fun e w' => PrAns e s (rPred (dr s k)) ∧ Below w.heap.size w w' := by
  have HS : Hid _ := Pq.init w s k false
  have HWD : Hid _ := fun W => rword_any s k false W hk hs
  obtain ⟨n, hn⟩ : ∃ n, n = pos s r := ⟨_, rfl⟩
  have HANS : Hid (PrAns (.returned (.tuple #[.agg #[.string s, .int .i64 (n : Int), .bool true], .agg #[.string ⟨#[]⟩, .int .i64 0, .int .i64 0, .int .i64 0, .string ⟨#[]⟩]])) s (rPred (dr s k))) := by
    have e : rPred (dr s k) = .fail ee r := by unfold rPred; rw [hres]
    rw [Hid, e]
    exact PrAns.mk _ _ _ _ _ hn rfl (fun _ _ h => by cases h)
  have e1 : wAft s k false = (n, true, ⟨#[]⟩) := by unfold wAft; simp [hres, hn, Ps.isBad, Ps.left, wdV]
  rw [e1] at HWD
  clear hn e1 hres
  go_enter Tryz.func87, Tryz.ntmps87
  go_wp2_with fail
  refine Calls.mono (HWD.out _) ?_
  rintro e W1 ⟨rfl, b1⟩
  have S1 : Hid (Sp w W1 s k false) := HS.out.1.below b1
  have O1 : Hid _ := (b1.block _ (lt_of_block HS.out.2)).trans HS.out.2
  obtain ⟨c0, c1, c2, cf, cl, d0, d1, d2, df, dl⟩ := S1.out.cells
  clear b1 HS HWD
  go_wp2_with fail
  refine Calls.mono (rblanks_t s n _) ?_
  rintro e W2 ⟨rfl, b2⟩
  have S2 : Hid (Sp w W2 s n true) := (S1.out.set3 n true).below b2
  have O2 : Hid _ := out2_carry O1.out b2
  clear c0 c1 c2 cf cl d0 d1 d2 df dl b2 S1 O1
  obtain ⟨c0, c1, c2, cf, cl, d0, d1, d2, df, dl⟩ := S2.out.cells
  go_upto_region 4 with fail
  obtain ⟨V, hV⟩ : ∃ V, V = ((((W2.setCell ⟨w.heap.size, 0, none⟩ (.string s)).setCell ⟨w.heap.size, 1, none⟩ (.int .i64 (n : Int))).setCell ⟨w.heap.size, 2, none⟩ (.bool true)).alloc (.cells #[.string ⟨#[]⟩, .int .i64 0, .int .i64 0, .int .i64 0, .string ⟨#[]⟩] 160)) := ⟨_, rfl⟩
  rw [← hV]
  have PV : Hid (Pq w V s n true W2.heap.size #[.string ⟨#[]⟩, .int .i64 0, .int .i64 0, .int .i64 0, .string ⟨#[]⟩]) := by rw [Hid, hV]; exact Pq.at4 S2.out O2.out n true _
  clear hV S2 O2 c0 c1 c2 cf cl d0 d1 d2 df dl
  generalize W2.heap.size = X at PV ⊢
  have c2' := PV.out.sp.cells.2.2.1
  go_wp2_with fail
  clear c2'
  obtain ⟨c0, c1, c2, cf, cl, d0, d1, d2, df, dl⟩ := PV.out.sp.cells
  obtain ⟨x0, x1, x2, x3, x4, xf, xl⟩ := fiveP PV.out.xb
  obtain ⟨y0, y1, y2, y3, y4, yf, yl⟩ := fiveP PV.out.o2
  have xn := PV.out.xl
  have n1 : ¬ X = w.heap.size := by omega
  have n2' : ¬ X = w.heap.size + 1 := by omega
  have n3 : ¬ X = w.heap.size + 1 + 1 := by omega
  have n4 : ¬ w.heap.size = X := by omega
  have n5 : ¬ w.heap.size + 1 = X := by omega
  have n6 : ¬ w.heap.size + 1 + 1 = X := by omega
  have n7 : ¬ w.heap.size + 1 + 1 = w.heap.size := by omega
  have n8 : ¬ w.heap.size = w.heap.size + 1 + 1 := by omega
  clear xn
  have HBL : Hid (Below w.heap.size w V) := PV.out.sp.bel

  go_region
  all_goals
    go_wp2_with fail
    refine bodyPost_ret (v := .tuple #[.agg #[.string s, .int .i64 (n : Int), .bool true], .agg #[.string ⟨#[]⟩, .int .i64 0, .int .i64 0, .int .i64 0, .string ⟨#[]⟩]]) (by simp [results, Tryz.results87, go_sem, *]) rfl ⟨HANS.out, ?_⟩
    refine below_drewP ?_
    repeat (refine Below.setCell ?_ (by simp; try omega) _)
    exact HBL.out

set_option maxRecDepth 100000 in
set_option maxHeartbeats 8000000 in
theorem rpred_b (s : ByteArray) (k : Nat) (w : World) (hk : k ≤ s.size) (hs : s.size ≤ 1000) (nm r : List UInt8) (hres : rWord (dr s k) = .ok nm r) (n2 : Nat) (hn2 : n2 = nb s (pos s r)) (hlt : n2 < s.size) (hc : (s[n2].toNat : Int) = 61) : Calls Tryz.prog 87 #[.agg #[.string s, .int .i64 (k : Int), .bool false]] w fun e w' => PrAns e s (rPred (dr s k)) ∧ Below w.heap.size w w' := by
  have HS : Hid _ := Pq.init w s k false
  have HWD : Hid _ := fun W => rword_any s k false W hk hs
  have hws := rWord_suf (dr s k)
  rw [hres] at hws
  obtain ⟨n1, hn1⟩ : ∃ n1, n1 = pos s r := ⟨_, rfl⟩
  have hd1 : dr s n1 = r := by rw [hn1]; exact dr_posd hws
  have hl1 : n1 ≤ s.size := by rw [hn1]; exact pos_le _ _
  have e1 : wAft s k false = (n1, false, ba nm) := by unfold wAft; simp [hres, hn1, Ps.isBad, Ps.left, wdV]
  rw [e1] at HWD
  have HBK : Hid _ := fun W => rblanks_f s n1 W hl1 hs
  have hn2d := nb_dr s n1
  have hn2l := nb_le s n1
  rw [hd1] at hn2d
  rw [hn1, ← hn2] at hn2d hn2l
  have HBK2 : Hid (∀ W, Calls Tryz.prog 88 #[.agg #[.string s, .int .i64 (n1 : Int), .bool false]] W fun e w' => e = .returned (.agg #[.string s, .int .i64 (n2 : Int), .bool false]) ∧ Below W.heap.size W w') := by rw [Hid, hn2, ← hn1]; exact HBK.out
  clear HBK
  have HBK := HBK2
  clear HBK2
  have HN2 : Hid (dr s n2 = r.dropWhile isBlank) := hn2d
  have HRW : Hid (rWord (dr s k) = .ok nm r) := hres
  obtain ⟨k3, b3, hm3⟩ : ∃ k3 b3, mAft s ⟨#[61]⟩ n2 false = (k3, b3) := ⟨_, _, rfl⟩
  obtain ⟨k4, b4, st, hm4⟩ : ∃ k4 b4 st, sAft s k3 b3 = (k4, b4, st) := ⟨_, _, _, rfl⟩
  have hk3 : k3 ≤ s.size := by have := mAft_le (s := s) (m := ⟨#[61]⟩) (k := n2) (b := false) hn2l; rw [hm3] at this; exact this
  have HMK : Hid _ := fun W => rmark_any s ⟨#[61]⟩ n2 false W hn2l hs (by decide) (by decide)
  have HST : Hid _ := fun W => rstr_any s k3 b3 W hk3 hs
  rw [hm3] at HMK
  rw [hm4] at HST
  have HANS : Hid (PrAns (.returned (.tuple #[.agg #[.string s, .int .i64 (k4 : Int), .bool b4], .agg #[.string (ba nm), .int .i64 2, .int .i64 0, .int .i64 0, .string st]])) s (rPred (dr s k))) := by
    have hms := ms_is s ⟨#[61]⟩ n2
    rw [hm3] at hms
    simp only at hms
    rw [hm4] at hms
    have e : rPred (dr s k) = rAsk nm (dr s n2) := by
      unfold rPred rBegin; rw [hres]; simp only; rw [← HN2.out, dr_cons s n2 hlt]
    rw [Hid, e]
    have e2 : rAsk nm (dr s n2) = match rMarkStr [61] (dr s n2) with
        | .ok st r' => .ok ⟨nm, 2, 0, 0, st⟩ r'
        | .fail e r' => .fail e r' := by
      rw [dr_cons s n2 hlt]; unfold rAsk; simp only; rw [if_pos (by omega)]; rfl
    rw [e2]
    generalize rMarkStr [61] (dr s n2) = rr at hms
    cases rr with
    | fail e l =>
      simp [Ps.isBad, Ps.left, wdV] at hms
      obtain ⟨q1, q2, q3⟩ := hms
      subst q1 q2 q3
      exact PrAns.mk _ _ _ _ _ rfl rfl (fun _ _ h => by cases h)
    | ok v l =>
      simp [Ps.isBad, Ps.left, wdV] at hms
      obtain ⟨q1, q2, q3⟩ := hms
      subst q1 q2 q3
      exact PrAns.mk _ _ _ _ _ rfl rfl (fun q' l' h => by cases h; simp [ba_list])
  clear hm3 hm4
  clear hn1 hd1 e1 hres hws hn2d hn2
  generalize ba nm = NMB at *
  go_enter Tryz.func87, Tryz.ntmps87
  go_wp2_with fail
  refine Calls.mono (HWD.out _) ?_
  rintro e W1 ⟨rfl, b1⟩
  have S1 : Hid (Sp w W1 s k false) := HS.out.1.below b1
  have O1 : Hid _ := (b1.block _ (lt_of_block HS.out.2)).trans HS.out.2
  obtain ⟨c0, c1, c2, cf, cl, d0, d1, d2, df, dl⟩ := S1.out.cells
  clear b1 HS HWD
  go_wp2_with fail
  refine Calls.mono (HBK.out _) ?_
  rintro e W2 ⟨rfl, b2⟩
  have S2 : Hid (Sp w W2 s n1 false) := (S1.out.set3 n1 false).below b2
  have O2 : Hid _ := out2_carry O1.out b2
  clear c0 c1 c2 cf cl d0 d1 d2 df dl b2 S1 O1 HBK
  obtain ⟨c0, c1, c2, cf, cl, d0, d1, d2, df, dl⟩ := S2.out.cells
  go_upto_region 4 with fail
  obtain ⟨V, hV⟩ : ∃ V, V = ((((W2.setCell ⟨w.heap.size, 0, none⟩ (.string s)).setCell ⟨w.heap.size, 1, none⟩ (.int .i64 (n2 : Int))).setCell ⟨w.heap.size, 2, none⟩ (.bool false)).alloc (.cells #[.string NMB, .int .i64 0, .int .i64 0, .int .i64 0, .string ⟨#[]⟩] 160)) := ⟨_, rfl⟩
  rw [← hV]
  have PV : Hid (Pq w V s n2 false W2.heap.size #[.string NMB, .int .i64 0, .int .i64 0, .int .i64 0, .string ⟨#[]⟩]) := by rw [Hid, hV]; exact Pq.at4 S2.out O2.out n2 false _
  clear hV S2 O2 c0 c1 c2 cf cl d0 d1 d2 df dl
  generalize W2.heap.size = X at PV ⊢
  obtain ⟨c0, c1, c2, cf, cl, d0, d1, d2, df, dl⟩ := PV.out.sp.cells
  obtain ⟨x0, x1, x2, x3, x4, xf, xl⟩ := fiveP PV.out.xb
  obtain ⟨y0, y1, y2, y3, y4, yf, yl⟩ := fiveP PV.out.o2
  have g1 : ((s[n2].toNat : Int) == 61) = true := by simpa using hc
  clear hc
  go_wp2_with fail
  refine Calls.mono (HMK.out _) ?_
  rintro e W3 ⟨rfl, b3'⟩
  have PV3 : Hid _ := PV.out.below b3'
  clear b3'
  go_wp2_with fail
  refine Calls.mono (HST.out _) ?_
  rintro e W4 ⟨rfl, b4'⟩
  have PV4 : Hid _ := PV3.out.below b4'
  clear b4' PV PV3 c0 c1 c2 cf cl d0 d1 d2 df dl x0 x1 x2 x3 x4 xf xl y0 y1 y2 y3 y4 yf yl
  obtain ⟨c0, c1, c2, cf, cl, d0, d1, d2, df, dl⟩ := PV4.out.sp.cells
  obtain ⟨x0, x1, x2, x3, x4, xf, xl⟩ := fiveP PV4.out.xb
  obtain ⟨y0, y1, y2, y3, y4, yf, yl⟩ := fiveP PV4.out.o2
  have xn := PV4.out.xl
  go_upto_region 10 with fail
  obtain ⟨U, hU⟩ : ∃ U, U = ((W4.setCell ⟨X, 1, none⟩ (.int .i64 2)).setCell ⟨X, 4, none⟩ (.string st)) := ⟨_, rfl⟩
  have PU : Hid (Pq w U s n2 false X #[.string NMB, .int .i64 2, .int .i64 0, .int .i64 0, .string st]) := by
    rw [Hid, hU]; exact (PV4.out.setx 1 _ rfl).setx 4 _ rfl
  have hUs : U.heap.size = W4.heap.size := by rw [hU]; simp [World.setCell]
  rw [← hU]
  rw [← hUs]
  obtain ⟨V, hV⟩ : ∃ V, V = U.alloc (.cells #[.string s, .int .i64 (k4 : Int), .bool b4] 196) := ⟨_, rfl⟩
  have PV : Hid (Pq w V s n2 false X #[.string NMB, .int .i64 2, .int .i64 0, .int .i64 0, .string st]) := by rw [Hid, hV]; exact PU.out.below ((Below.refl _ _).alloc (Nat.le_refl _) _)
  have QV : Hid (V.heap[U.heap.size]? = some (.cells #[.string s, .int .i64 (k4 : Int), .bool b4] 196 (0, 0))) := by rw [Hid, hV]; exact heap_alloc_new U _
  rw [← hV]
  generalize U.heap.size = Q at QV ⊢
  clear hV hU hUs PU PV4 c0 c1 c2 cf cl d0 d1 d2 df dl x0 x1 x2 x3 x4 xf xl y0 y1 y2 y3 y4 yf yl xn
  obtain ⟨c0, c1, c2, cf, cl, d0, d1, d2, df, dl⟩ := PV.out.sp.cells
  obtain ⟨x0, x1, x2, x3, x4, xf, xl⟩ := fiveP PV.out.xb
  obtain ⟨y0, y1, y2, y3, y4, yf, yl⟩ := fiveP PV.out.o2
  have xn := PV.out.xl
  have n1 : ¬ X = w.heap.size := by omega
  have n2' : ¬ X = w.heap.size + 1 := by omega
  have n3 : ¬ X = w.heap.size + 1 + 1 := by omega
  have n4 : ¬ w.heap.size = X := by omega
  have n5 : ¬ w.heap.size + 1 = X := by omega
  have n6 : ¬ w.heap.size + 1 + 1 = X := by omega
  have n7 : ¬ w.heap.size + 1 + 1 = w.heap.size := by omega
  have n8 : ¬ w.heap.size = w.heap.size + 1 + 1 := by omega
  clear xn
  have HBL : Hid (Below w.heap.size w V) := PV.out.sp.bel
  obtain ⟨q0, q1, q2, qf, ql⟩ := threeP QV.out
  go_region
  all_goals
    go_wp2_with fail
    refine bodyPost_ret (v := .tuple #[.agg #[.string s, .int .i64 (k4 : Int), .bool b4], .agg #[.string NMB, .int .i64 2, .int .i64 0, .int .i64 0, .string st]]) (by simp [results, Tryz.results87, go_sem, *]) rfl ⟨HANS.out, ?_⟩
    refine below_drewP ?_
    repeat (refine Below.setCell ?_ (by simp; try omega) _)
    exact HBL.out

set_option maxRecDepth 100000 in
set_option maxHeartbeats 8000000 in
theorem rpred_c (s : ByteArray) (k : Nat) (w : World) (hk : k ≤ s.size) (hs : s.size ≤ 1000) (nm r : List UInt8) (hres : rWord (dr s k) = .ok nm r) (n2 : Nat) (hn2 : n2 = nb s (pos s r)) (hlt : n2 < s.size) (hc : (s[n2].toNat : Int) = 94) : Calls Tryz.prog 87 #[.agg #[.string s, .int .i64 (k : Int), .bool false]] w fun e w' => PrAns e s (rPred (dr s k)) ∧ Below w.heap.size w w' := by
  have HS : Hid _ := Pq.init w s k false
  have HWD : Hid _ := fun W => rword_any s k false W hk hs
  have hws := rWord_suf (dr s k)
  rw [hres] at hws
  obtain ⟨n1, hn1⟩ : ∃ n1, n1 = pos s r := ⟨_, rfl⟩
  have hd1 : dr s n1 = r := by rw [hn1]; exact dr_posd hws
  have hl1 : n1 ≤ s.size := by rw [hn1]; exact pos_le _ _
  have e1 : wAft s k false = (n1, false, ba nm) := by unfold wAft; simp [hres, hn1, Ps.isBad, Ps.left, wdV]
  rw [e1] at HWD
  have HBK : Hid _ := fun W => rblanks_f s n1 W hl1 hs
  have hn2d := nb_dr s n1
  have hn2l := nb_le s n1
  rw [hd1] at hn2d
  rw [hn1, ← hn2] at hn2d hn2l
  have HBK2 : Hid (∀ W, Calls Tryz.prog 88 #[.agg #[.string s, .int .i64 (n1 : Int), .bool false]] W fun e w' => e = .returned (.agg #[.string s, .int .i64 (n2 : Int), .bool false]) ∧ Below W.heap.size W w') := by rw [Hid, hn2, ← hn1]; exact HBK.out
  clear HBK
  have HBK := HBK2
  clear HBK2
  have HN2 : Hid (dr s n2 = r.dropWhile isBlank) := hn2d
  have HRW : Hid (rWord (dr s k) = .ok nm r) := hres
  obtain ⟨k3, b3, hm3⟩ : ∃ k3 b3, mAft s ⟨#[94, 61]⟩ n2 false = (k3, b3) := ⟨_, _, rfl⟩
  obtain ⟨k4, b4, st, hm4⟩ : ∃ k4 b4 st, sAft s k3 b3 = (k4, b4, st) := ⟨_, _, _, rfl⟩
  have hk3 : k3 ≤ s.size := by have := mAft_le (s := s) (m := ⟨#[94, 61]⟩) (k := n2) (b := false) hn2l; rw [hm3] at this; exact this
  have HMK : Hid _ := fun W => rmark_any s ⟨#[94, 61]⟩ n2 false W hn2l hs (by decide) (by decide)
  have HST : Hid _ := fun W => rstr_any s k3 b3 W hk3 hs
  rw [hm3] at HMK
  rw [hm4] at HST
  have HANS : Hid (PrAns (.returned (.tuple #[.agg #[.string s, .int .i64 (k4 : Int), .bool b4], .agg #[.string (ba nm), .int .i64 3, .int .i64 0, .int .i64 0, .string st]])) s (rPred (dr s k))) := by
    have hms := ms_is s ⟨#[94, 61]⟩ n2
    rw [hm3] at hms
    simp only at hms
    rw [hm4] at hms
    have e : rPred (dr s k) = rAsk nm (dr s n2) := by
      unfold rPred rBegin; rw [hres]; simp only; rw [← HN2.out, dr_cons s n2 hlt]
    rw [Hid, e]
    have e2 : rAsk nm (dr s n2) = match rMarkStr [94, 61] (dr s n2) with
        | .ok st r' => .ok ⟨nm, 3, 0, 0, st⟩ r'
        | .fail e r' => .fail e r' := by
      rw [dr_cons s n2 hlt]; unfold rAsk; simp only; rw [if_neg (by omega), if_pos (by omega)]; rfl
    rw [e2]
    generalize rMarkStr [94, 61] (dr s n2) = rr at hms
    cases rr with
    | fail e l =>
      simp [Ps.isBad, Ps.left, wdV] at hms
      obtain ⟨q1, q2, q3⟩ := hms
      subst q1 q2 q3
      exact PrAns.mk _ _ _ _ _ rfl rfl (fun _ _ h => by cases h)
    | ok v l =>
      simp [Ps.isBad, Ps.left, wdV] at hms
      obtain ⟨q1, q2, q3⟩ := hms
      subst q1 q2 q3
      exact PrAns.mk _ _ _ _ _ rfl rfl (fun q' l' h => by cases h; simp [ba_list])
  clear hm3 hm4
  clear hn1 hd1 e1 hres hws hn2d hn2
  generalize ba nm = NMB at *
  go_enter Tryz.func87, Tryz.ntmps87
  go_wp2_with fail
  refine Calls.mono (HWD.out _) ?_
  rintro e W1 ⟨rfl, b1⟩
  have S1 : Hid (Sp w W1 s k false) := HS.out.1.below b1
  have O1 : Hid _ := (b1.block _ (lt_of_block HS.out.2)).trans HS.out.2
  obtain ⟨c0, c1, c2, cf, cl, d0, d1, d2, df, dl⟩ := S1.out.cells
  clear b1 HS HWD
  go_wp2_with fail
  refine Calls.mono (HBK.out _) ?_
  rintro e W2 ⟨rfl, b2⟩
  have S2 : Hid (Sp w W2 s n1 false) := (S1.out.set3 n1 false).below b2
  have O2 : Hid _ := out2_carry O1.out b2
  clear c0 c1 c2 cf cl d0 d1 d2 df dl b2 S1 O1 HBK
  obtain ⟨c0, c1, c2, cf, cl, d0, d1, d2, df, dl⟩ := S2.out.cells
  go_upto_region 4 with fail
  obtain ⟨V, hV⟩ : ∃ V, V = ((((W2.setCell ⟨w.heap.size, 0, none⟩ (.string s)).setCell ⟨w.heap.size, 1, none⟩ (.int .i64 (n2 : Int))).setCell ⟨w.heap.size, 2, none⟩ (.bool false)).alloc (.cells #[.string NMB, .int .i64 0, .int .i64 0, .int .i64 0, .string ⟨#[]⟩] 160)) := ⟨_, rfl⟩
  rw [← hV]
  have PV : Hid (Pq w V s n2 false W2.heap.size #[.string NMB, .int .i64 0, .int .i64 0, .int .i64 0, .string ⟨#[]⟩]) := by rw [Hid, hV]; exact Pq.at4 S2.out O2.out n2 false _
  clear hV S2 O2 c0 c1 c2 cf cl d0 d1 d2 df dl
  generalize W2.heap.size = X at PV ⊢
  obtain ⟨c0, c1, c2, cf, cl, d0, d1, d2, df, dl⟩ := PV.out.sp.cells
  obtain ⟨x0, x1, x2, x3, x4, xf, xl⟩ := fiveP PV.out.xb
  obtain ⟨y0, y1, y2, y3, y4, yf, yl⟩ := fiveP PV.out.o2
  have g1 : ((s[n2].toNat : Int) == 61) = false := by simp; omega
  have g2 : ((s[n2].toNat : Int) == 94) = true := by simpa using hc
  clear hc
  go_wp2_with fail
  refine Calls.mono (HMK.out _) ?_
  rintro e W3 ⟨rfl, b3'⟩
  have PV3 : Hid _ := PV.out.below b3'
  clear b3'
  go_wp2_with fail
  refine Calls.mono (HST.out _) ?_
  rintro e W4 ⟨rfl, b4'⟩
  have PV4 : Hid _ := PV3.out.below b4'
  clear b4' PV PV3 c0 c1 c2 cf cl d0 d1 d2 df dl x0 x1 x2 x3 x4 xf xl y0 y1 y2 y3 y4 yf yl
  obtain ⟨c0, c1, c2, cf, cl, d0, d1, d2, df, dl⟩ := PV4.out.sp.cells
  obtain ⟨x0, x1, x2, x3, x4, xf, xl⟩ := fiveP PV4.out.xb
  obtain ⟨y0, y1, y2, y3, y4, yf, yl⟩ := fiveP PV4.out.o2
  have xn := PV4.out.xl
  go_upto_region 15 with fail
  obtain ⟨U, hU⟩ : ∃ U, U = ((W4.setCell ⟨X, 1, none⟩ (.int .i64 3)).setCell ⟨X, 4, none⟩ (.string st)) := ⟨_, rfl⟩
  have PU : Hid (Pq w U s n2 false X #[.string NMB, .int .i64 3, .int .i64 0, .int .i64 0, .string st]) := by
    rw [Hid, hU]; exact (PV4.out.setx 1 _ rfl).setx 4 _ rfl
  have hUs : U.heap.size = W4.heap.size := by rw [hU]; simp [World.setCell]
  rw [← hU]
  rw [← hUs]
  obtain ⟨V, hV⟩ : ∃ V, V = U.alloc (.cells #[.string s, .int .i64 (k4 : Int), .bool b4] 196) := ⟨_, rfl⟩
  have PV : Hid (Pq w V s n2 false X #[.string NMB, .int .i64 3, .int .i64 0, .int .i64 0, .string st]) := by rw [Hid, hV]; exact PU.out.below ((Below.refl _ _).alloc (Nat.le_refl _) _)
  have QV : Hid (V.heap[U.heap.size]? = some (.cells #[.string s, .int .i64 (k4 : Int), .bool b4] 196 (0, 0))) := by rw [Hid, hV]; exact heap_alloc_new U _
  rw [← hV]
  generalize U.heap.size = Q at QV ⊢
  clear hV hU hUs PU PV4 c0 c1 c2 cf cl d0 d1 d2 df dl x0 x1 x2 x3 x4 xf xl y0 y1 y2 y3 y4 yf yl xn
  obtain ⟨c0, c1, c2, cf, cl, d0, d1, d2, df, dl⟩ := PV.out.sp.cells
  obtain ⟨x0, x1, x2, x3, x4, xf, xl⟩ := fiveP PV.out.xb
  obtain ⟨y0, y1, y2, y3, y4, yf, yl⟩ := fiveP PV.out.o2
  have xn := PV.out.xl
  have n1 : ¬ X = w.heap.size := by omega
  have n2' : ¬ X = w.heap.size + 1 := by omega
  have n3 : ¬ X = w.heap.size + 1 + 1 := by omega
  have n4 : ¬ w.heap.size = X := by omega
  have n5 : ¬ w.heap.size + 1 = X := by omega
  have n6 : ¬ w.heap.size + 1 + 1 = X := by omega
  have n7 : ¬ w.heap.size + 1 + 1 = w.heap.size := by omega
  have n8 : ¬ w.heap.size = w.heap.size + 1 + 1 := by omega
  clear xn
  have HBL : Hid (Below w.heap.size w V) := PV.out.sp.bel
  obtain ⟨q0, q1, q2, qf, ql⟩ := threeP QV.out
  go_region
  all_goals
    go_wp2_with fail
    refine bodyPost_ret (v := .tuple #[.agg #[.string s, .int .i64 (k4 : Int), .bool b4], .agg #[.string NMB, .int .i64 3, .int .i64 0, .int .i64 0, .string st]]) (by simp [results, Tryz.results87, go_sem, *]) rfl ⟨HANS.out, ?_⟩
    refine below_drewP ?_
    repeat (refine Below.setCell ?_ (by simp; try omega) _)
    exact HBL.out

set_option maxRecDepth 100000 in
set_option maxHeartbeats 8000000 in
theorem rpred_d (s : ByteArray) (k : Nat) (w : World) (hk : k ≤ s.size) (hs : s.size ≤ 1000) (nm r : List UInt8) (hres : rWord (dr s k) = .ok nm r) (n2 : Nat) (hn2 : n2 = nb s (pos s r)) (hlt : ¬ n2 < s.size) (hgo : (wAft s n2 false).2.1 = true ∨ ((wAft s n2 false).2.1 = false ∧ (wAft s n2 false).2.2 = ⟨#[105, 110]⟩)) : Calls Tryz.prog 87 #[.agg #[.string s, .int .i64 (k : Int), .bool false]] w fun e w' => PrAns e s (rPred (dr s k)) ∧ Below w.heap.size w w' := by
  have HS : Hid _ := Pq.init w s k false
  have HWD : Hid _ := fun W => rword_any s k false W hk hs
  have hws := rWord_suf (dr s k)
  rw [hres] at hws
  obtain ⟨n1, hn1⟩ : ∃ n1, n1 = pos s r := ⟨_, rfl⟩
  have hd1 : dr s n1 = r := by rw [hn1]; exact dr_posd hws
  have hl1 : n1 ≤ s.size := by rw [hn1]; exact pos_le _ _
  have e1 : wAft s k false = (n1, false, ba nm) := by unfold wAft; simp [hres, hn1, Ps.isBad, Ps.left, wdV]
  rw [e1] at HWD
  have HBK : Hid _ := fun W => rblanks_f s n1 W hl1 hs
  have hn2d := nb_dr s n1
  have hn2l := nb_le s n1
  rw [hd1] at hn2d
  rw [hn1, ← hn2] at hn2d hn2l
  have HBK2 : Hid (∀ W, Calls Tryz.prog 88 #[.agg #[.string s, .int .i64 (n1 : Int), .bool false]] W fun e w' => e = .returned (.agg #[.string s, .int .i64 (n2 : Int), .bool false]) ∧ Below W.heap.size W w') := by rw [Hid, hn2, ← hn1]; exact HBK.out
  clear HBK
  have HBK := HBK2
  clear HBK2
  have HN2 : Hid (dr s n2 = r.dropWhile isBlank) := hn2d
  have HRW : Hid (rWord (dr s k) = .ok nm r) := hres
  obtain ⟨k3, b3, wd, hm3⟩ : ∃ k3 b3 wd, wAft s n2 false = (k3, b3, wd) := ⟨_, _, _, rfl⟩
  obtain ⟨k4, b4, lo, hm4⟩ : ∃ k4 b4 lo, nAft s k3 b3 = (k4, b4, lo) := ⟨_, _, _, rfl⟩
  obtain ⟨k5, b5, hm5⟩ : ∃ k5 b5, mAft s ⟨#[46, 46]⟩ k4 b4 = (k5, b5) := ⟨_, _, rfl⟩
  obtain ⟨k6, b6, hi, hm6⟩ : ∃ k6 b6 hi, nAft s k5 b5 = (k6, b6, hi) := ⟨_, _, _, rfl⟩
  have hk3 : k3 ≤ s.size := by have := wAft_le (s := s) (k := n2) (b := false) hn2l; rw [hm3] at this; exact this
  have hk4 : k4 ≤ s.size := by have := nAft_le (s := s) (k := k3) (b := b3) hk3; rw [hm4] at this; exact this
  have hk5 : k5 ≤ s.size := by have := mAft_le (s := s) (m := ⟨#[46, 46]⟩) (k := k4) (b := b4) hk4; rw [hm5] at this; exact this
  have HW3 : Hid _ := fun W => rword_any s n2 false W hn2l hs
  have HW4 : Hid _ := fun W => rnumber_any s k3 b3 W hk3 hs
  have HW5 : Hid _ := fun W => rmark_any s ⟨#[46, 46]⟩ k4 b4 W hk4 hs (by decide) (by decide)
  have HW6 : Hid _ := fun W => rnumber_any s k5 b5 W hk5 hs
  rw [hm3] at HW3
  rw [hm4] at HW4
  rw [hm5] at HW5
  rw [hm6] at HW6
  have hnu := nums_is s n2 (hgo.imp id (fun h => h.2))
  rw [hm3] at hnu hgo
  simp only at hnu hgo
  rw [hm4] at hnu
  simp only at hnu
  rw [hm5] at hnu
  simp only at hnu
  rw [hm6] at hnu
  simp only at hnu
  have HANS : Hid (PrAns (.returned (.tuple #[.agg #[.string s, .int .i64 (k6 : Int), .bool b6], .agg #[.string (ba nm), .int .i64 1, .int .i64 lo, .int .i64 hi, .string ⟨#[]⟩]])) s (rPred (dr s k))) := by
    obtain ⟨u1, u2, u3⟩ := hnu
    have e : rPred (dr s k) = .fail true [] := by
      unfold rPred rBegin; rw [hres]; simp only; rw [← HN2.out, dr_end s n2 (by omega)]
    have e0 : rNums (dr s n2) = .fail true [] := by
      rw [dr_end s n2 (by omega)]; rfl
    have f1 : (rPred (dr s k)).left = (rNums (dr s n2)).left := by rw [e, e0]; rfl
    have f2 : (rPred (dr s k)).isBad = (rNums (dr s n2)).isBad := by rw [e, e0]; rfl
    have f3 : ∀ q' l, rPred (dr s k) = .ok q' l → ∃ v, rNums (dr s n2) = .ok v l ∧ q' = ⟨nm, 1, v.1, v.2, []⟩ := fun q' l h => by rw [e] at h; cases h
    rw [Hid]
    refine PrAns.mk _ _ _ _ _ (u1.trans (by rw [f1])) (u2.trans f2.symm) (fun q' l h => ?_)
    obtain ⟨v, hv, hq⟩ := f3 q' l h
    have hlh := u3 v l hv
    rw [hq, hlh]
    simp [ba_list]
  have HG : Hid (b3 = true ∨ (b3 = false ∧ wd = ⟨#[105, 110]⟩)) := hgo
  clear hm3 hm4 hm5 hm6 hnu hgo
  clear hn1 hd1 e1 hres hws hn2d hn2
  generalize ba nm = NMB at *
  go_enter Tryz.func87, Tryz.ntmps87
  go_wp2_with fail
  refine Calls.mono (HWD.out _) ?_
  rintro e W1 ⟨rfl, b1⟩
  have S1 : Hid (Sp w W1 s k false) := HS.out.1.below b1
  have O1 : Hid _ := (b1.block _ (lt_of_block HS.out.2)).trans HS.out.2
  obtain ⟨c0, c1, c2, cf, cl, d0, d1, d2, df, dl⟩ := S1.out.cells
  clear b1 HS HWD
  go_wp2_with fail
  refine Calls.mono (HBK.out _) ?_
  rintro e W2 ⟨rfl, b2⟩
  have S2 : Hid (Sp w W2 s n1 false) := (S1.out.set3 n1 false).below b2
  have O2 : Hid _ := out2_carry O1.out b2
  clear c0 c1 c2 cf cl d0 d1 d2 df dl b2 S1 O1 HBK
  obtain ⟨c0, c1, c2, cf, cl, d0, d1, d2, df, dl⟩ := S2.out.cells
  go_upto_region 4 with fail
  obtain ⟨V, hV⟩ : ∃ V, V = ((((W2.setCell ⟨w.heap.size, 0, none⟩ (.string s)).setCell ⟨w.heap.size, 1, none⟩ (.int .i64 (n2 : Int))).setCell ⟨w.heap.size, 2, none⟩ (.bool false)).alloc (.cells #[.string NMB, .int .i64 0, .int .i64 0, .int .i64 0, .string ⟨#[]⟩] 160)) := ⟨_, rfl⟩
  rw [← hV]
  have PV : Hid (Pq w V s n2 false W2.heap.size #[.string NMB, .int .i64 0, .int .i64 0, .int .i64 0, .string ⟨#[]⟩]) := by rw [Hid, hV]; exact Pq.at4 S2.out O2.out n2 false _
  clear hV S2 O2 c0 c1 c2 cf cl d0 d1 d2 df dl
  generalize W2.heap.size = X at PV ⊢
  obtain ⟨c0, c1, c2, cf, cl, d0, d1, d2, df, dl⟩ := PV.out.sp.cells
  obtain ⟨x0, x1, x2, x3, x4, xf, xl⟩ := fiveP PV.out.xb
  obtain ⟨y0, y1, y2, y3, y4, yf, yl⟩ := fiveP PV.out.o2
  have hdl : decide ((n2 : Int) < (s.size : Int)) = false := by simp; omega
  go_wp2_with fail
  refine Calls.mono (HW3.out _) ?_
  rintro e W3 ⟨rfl, b3'⟩
  have PV3 : Hid _ := PV.out.below b3'
  have HS3 : Hid (Below W3.heap.size W3 (W3.alloc (.cells #[.string s, .int .i64 (k3 : Int), .bool b3] 196))) := (Below.refl _ _).alloc (Nat.le_refl _) _
  clear b3' HW3 PV c0 c1 c2 cf cl d0 d1 d2 df dl x0 x1 x2 x3 x4 xf xl y0 y1 y2 y3 y4 yf yl
  obtain ⟨c0, c1, c2, cf, cl, d0, d1, d2, df, dl⟩ := PV3.out.sp.cells
  rcases HG.out with hb3 | ⟨hb3, hwd⟩
  all_goals
    try subst hwd
    subst hb3
    clear HG
    go_wp2_with fail
    refine Calls.mono (HW4.out _) ?_
    rintro e W4 ⟨rfl, b4'⟩
    have PV4 : Hid _ := (PV3.out.below HS3.out).below b4'
    clear b4' PV3 HS3 HW4 c0 c1 c2 cf cl d0 d1 d2 df dl
    have HS4 : Hid (Below W4.heap.size W4 (W4.alloc (.cells #[.string s, .int .i64 (k4 : Int), .bool b4] 196))) := (Below.refl _ _).alloc (Nat.le_refl _) _
    go_wp2_with fail
    refine Calls.mono (HW5.out _) ?_
    rintro e W5 ⟨rfl, b5'⟩
    have PV5 : Hid _ := (PV4.out.below HS4.out).below b5'
    clear b5' PV4 HS4 HW5
    go_wp2_with fail
    refine Calls.mono (HW6.out _) ?_
    rintro e W6 ⟨rfl, b6'⟩
    have PV6 : Hid _ := PV5.out.below b6'
    clear b6' PV5 HW6
    obtain ⟨c0, c1, c2, cf, cl, d0, d1, d2, df, dl⟩ := PV6.out.sp.cells
    obtain ⟨x0, x1, x2, x3, x4, xf, xl⟩ := fiveP PV6.out.xb
    obtain ⟨y0, y1, y2, y3, y4, yf, yl⟩ := fiveP PV6.out.o2
    go_upto_region 24 with fail
    obtain ⟨U, hU⟩ : ∃ U, U = ((W6.setCell ⟨X, 1, none⟩ (.int .i64 1)).setCell ⟨X, 2, none⟩ (.int .i64 lo)).setCell ⟨X, 3, none⟩ (.int .i64 hi) := ⟨_, rfl⟩
    have PU : Hid (Pq w U s n2 false X #[.string NMB, .int .i64 1, .int .i64 lo, .int .i64 hi, .string ⟨#[]⟩]) := by
      rw [Hid, hU]; exact ((PV6.out.setx 1 _ rfl).setx 2 _ rfl).setx 3 _ rfl
    have hUs : U.heap.size = W6.heap.size := by rw [hU]; simp [World.setCell]
    rw [← hU]
    rw [← hUs]
    obtain ⟨V, hV⟩ : ∃ V, V = U.alloc (.cells #[.string s, .int .i64 (k6 : Int), .bool b6] 196) := ⟨_, rfl⟩
    have PV : Hid (Pq w V s n2 false X #[.string NMB, .int .i64 1, .int .i64 lo, .int .i64 hi, .string ⟨#[]⟩]) := by rw [Hid, hV]; exact PU.out.below ((Below.refl _ _).alloc (Nat.le_refl _) _)
    have QV : Hid (V.heap[U.heap.size]? = some (.cells #[.string s, .int .i64 (k6 : Int), .bool b6] 196 (0, 0))) := by rw [Hid, hV]; exact heap_alloc_new U _
    rw [← hV]
    generalize U.heap.size = Q at QV ⊢
    clear hV hU hUs PU PV6 c0 c1 c2 cf cl d0 d1 d2 df dl x0 x1 x2 x3 x4 xf xl y0 y1 y2 y3 y4 yf yl
    obtain ⟨c0, c1, c2, cf, cl, d0, d1, d2, df, dl⟩ := PV.out.sp.cells
    obtain ⟨x0, x1, x2, x3, x4, xf, xl⟩ := fiveP PV.out.xb
    obtain ⟨y0, y1, y2, y3, y4, yf, yl⟩ := fiveP PV.out.o2
    have xn := PV.out.xl
    have n1 : ¬ X = w.heap.size := by omega
    have n2' : ¬ X = w.heap.size + 1 := by omega
    have n3 : ¬ X = w.heap.size + 1 + 1 := by omega
    have n4 : ¬ w.heap.size = X := by omega
    have n5 : ¬ w.heap.size + 1 = X := by omega
    have n6 : ¬ w.heap.size + 1 + 1 = X := by omega
    have n7 : ¬ w.heap.size + 1 + 1 = w.heap.size := by omega
    have n8 : ¬ w.heap.size = w.heap.size + 1 + 1 := by omega
    clear xn
    have HBL : Hid (Below w.heap.size w V) := PV.out.sp.bel
    obtain ⟨q0, q1, q2, qf, ql⟩ := threeP QV.out
    go_region
    all_goals
      go_wp2_with fail
      refine bodyPost_ret (v := .tuple #[.agg #[.string s, .int .i64 (k6 : Int), .bool b6], .agg #[.string NMB, .int .i64 1, .int .i64 lo, .int .i64 hi, .string ⟨#[]⟩]]) (by simp [results, Tryz.results87, go_sem, *]) rfl ⟨HANS.out, ?_⟩
      refine below_drewP ?_
      repeat (refine Below.setCell ?_ (by simp; try omega) _)
      exact HBL.out

set_option maxRecDepth 100000 in
set_option maxHeartbeats 8000000 in
theorem rpred_e (s : ByteArray) (k : Nat) (w : World) (hk : k ≤ s.size) (hs : s.size ≤ 1000) (nm r : List UInt8) (hres : rWord (dr s k) = .ok nm r) (n2 : Nat) (hn2 : n2 = nb s (pos s r)) (hlt : n2 < s.size) (hc1 : ¬ (s[n2].toNat : Int) = 61) (hc2 : ¬ (s[n2].toNat : Int) = 94) (hgo : (wAft s n2 false).2.1 = true ∨ ((wAft s n2 false).2.1 = false ∧ (wAft s n2 false).2.2 = ⟨#[105, 110]⟩)) : Calls Tryz.prog 87 #[.agg #[.string s, .int .i64 (k : Int), .bool false]] w fun e w' => PrAns e s (rPred (dr s k)) ∧ Below w.heap.size w w' := by
  have HS : Hid _ := Pq.init w s k false
  have HWD : Hid _ := fun W => rword_any s k false W hk hs
  have hws := rWord_suf (dr s k)
  rw [hres] at hws
  obtain ⟨n1, hn1⟩ : ∃ n1, n1 = pos s r := ⟨_, rfl⟩
  have hd1 : dr s n1 = r := by rw [hn1]; exact dr_posd hws
  have hl1 : n1 ≤ s.size := by rw [hn1]; exact pos_le _ _
  have e1 : wAft s k false = (n1, false, ba nm) := by unfold wAft; simp [hres, hn1, Ps.isBad, Ps.left, wdV]
  rw [e1] at HWD
  have HBK : Hid _ := fun W => rblanks_f s n1 W hl1 hs
  have hn2d := nb_dr s n1
  have hn2l := nb_le s n1
  rw [hd1] at hn2d
  rw [hn1, ← hn2] at hn2d hn2l
  have HBK2 : Hid (∀ W, Calls Tryz.prog 88 #[.agg #[.string s, .int .i64 (n1 : Int), .bool false]] W fun e w' => e = .returned (.agg #[.string s, .int .i64 (n2 : Int), .bool false]) ∧ Below W.heap.size W w') := by rw [Hid, hn2, ← hn1]; exact HBK.out
  clear HBK
  have HBK := HBK2
  clear HBK2
  have HN2 : Hid (dr s n2 = r.dropWhile isBlank) := hn2d
  have HRW : Hid (rWord (dr s k) = .ok nm r) := hres
  obtain ⟨k3, b3, wd, hm3⟩ : ∃ k3 b3 wd, wAft s n2 false = (k3, b3, wd) := ⟨_, _, _, rfl⟩
  obtain ⟨k4, b4, lo, hm4⟩ : ∃ k4 b4 lo, nAft s k3 b3 = (k4, b4, lo) := ⟨_, _, _, rfl⟩
  obtain ⟨k5, b5, hm5⟩ : ∃ k5 b5, mAft s ⟨#[46, 46]⟩ k4 b4 = (k5, b5) := ⟨_, _, rfl⟩
  obtain ⟨k6, b6, hi, hm6⟩ : ∃ k6 b6 hi, nAft s k5 b5 = (k6, b6, hi) := ⟨_, _, _, rfl⟩
  have hk3 : k3 ≤ s.size := by have := wAft_le (s := s) (k := n2) (b := false) hn2l; rw [hm3] at this; exact this
  have hk4 : k4 ≤ s.size := by have := nAft_le (s := s) (k := k3) (b := b3) hk3; rw [hm4] at this; exact this
  have hk5 : k5 ≤ s.size := by have := mAft_le (s := s) (m := ⟨#[46, 46]⟩) (k := k4) (b := b4) hk4; rw [hm5] at this; exact this
  have HW3 : Hid _ := fun W => rword_any s n2 false W hn2l hs
  have HW4 : Hid _ := fun W => rnumber_any s k3 b3 W hk3 hs
  have HW5 : Hid _ := fun W => rmark_any s ⟨#[46, 46]⟩ k4 b4 W hk4 hs (by decide) (by decide)
  have HW6 : Hid _ := fun W => rnumber_any s k5 b5 W hk5 hs
  rw [hm3] at HW3
  rw [hm4] at HW4
  rw [hm5] at HW5
  rw [hm6] at HW6
  have hnu := nums_is s n2 (hgo.imp id (fun h => h.2))
  rw [hm3] at hnu hgo
  simp only at hnu hgo
  rw [hm4] at hnu
  simp only at hnu
  rw [hm5] at hnu
  simp only at hnu
  rw [hm6] at hnu
  simp only at hnu
  have HANS : Hid (PrAns (.returned (.tuple #[.agg #[.string s, .int .i64 (k6 : Int), .bool b6], .agg #[.string (ba nm), .int .i64 1, .int .i64 lo, .int .i64 hi, .string ⟨#[]⟩]])) s (rPred (dr s k))) := by
    obtain ⟨u1, u2, u3⟩ := hnu
    have e : rPred (dr s k) = rAsk nm (dr s n2) := by
      unfold rPred rBegin; rw [hres]; simp only; rw [← HN2.out, dr_cons s n2 hlt]
    have e2 : rAsk nm (dr s n2) = match rNums (dr s n2) with
        | .ok v r' => .ok ⟨nm, 1, v.1, v.2, []⟩ r'
        | .fail e r' => .fail e r' := by
      rw [dr_cons s n2 hlt]; unfold rAsk; simp only; rw [if_neg (by omega), if_neg (by omega)]; rfl
    rw [e2] at e
    have f1 : (rPred (dr s k)).left = (rNums (dr s n2)).left := by rw [e]; cases rNums (dr s n2) <;> rfl
    have f2 : (rPred (dr s k)).isBad = (rNums (dr s n2)).isBad := by rw [e]; cases rNums (dr s n2) <;> rfl
    have f3 : ∀ q' l, rPred (dr s k) = .ok q' l → ∃ v, rNums (dr s n2) = .ok v l ∧ q' = ⟨nm, 1, v.1, v.2, []⟩ := fun q' l h => by
      rw [e] at h
      cases hx : rNums (dr s n2) with
      | fail e' r' => rw [hx] at h; cases h
      | ok v r' => rw [hx] at h; cases h; exact ⟨v, rfl, rfl⟩
    rw [Hid]
    refine PrAns.mk _ _ _ _ _ (u1.trans (by rw [f1])) (u2.trans f2.symm) (fun q' l h => ?_)
    obtain ⟨v, hv, hq⟩ := f3 q' l h
    have hlh := u3 v l hv
    rw [hq, hlh]
    simp [ba_list]
  have HG : Hid (b3 = true ∨ (b3 = false ∧ wd = ⟨#[105, 110]⟩)) := hgo
  clear hm3 hm4 hm5 hm6 hnu hgo
  clear hn1 hd1 e1 hres hws hn2d hn2
  generalize ba nm = NMB at *
  go_enter Tryz.func87, Tryz.ntmps87
  go_wp2_with fail
  refine Calls.mono (HWD.out _) ?_
  rintro e W1 ⟨rfl, b1⟩
  have S1 : Hid (Sp w W1 s k false) := HS.out.1.below b1
  have O1 : Hid _ := (b1.block _ (lt_of_block HS.out.2)).trans HS.out.2
  obtain ⟨c0, c1, c2, cf, cl, d0, d1, d2, df, dl⟩ := S1.out.cells
  clear b1 HS HWD
  go_wp2_with fail
  refine Calls.mono (HBK.out _) ?_
  rintro e W2 ⟨rfl, b2⟩
  have S2 : Hid (Sp w W2 s n1 false) := (S1.out.set3 n1 false).below b2
  have O2 : Hid _ := out2_carry O1.out b2
  clear c0 c1 c2 cf cl d0 d1 d2 df dl b2 S1 O1 HBK
  obtain ⟨c0, c1, c2, cf, cl, d0, d1, d2, df, dl⟩ := S2.out.cells
  go_upto_region 4 with fail
  obtain ⟨V, hV⟩ : ∃ V, V = ((((W2.setCell ⟨w.heap.size, 0, none⟩ (.string s)).setCell ⟨w.heap.size, 1, none⟩ (.int .i64 (n2 : Int))).setCell ⟨w.heap.size, 2, none⟩ (.bool false)).alloc (.cells #[.string NMB, .int .i64 0, .int .i64 0, .int .i64 0, .string ⟨#[]⟩] 160)) := ⟨_, rfl⟩
  rw [← hV]
  have PV : Hid (Pq w V s n2 false W2.heap.size #[.string NMB, .int .i64 0, .int .i64 0, .int .i64 0, .string ⟨#[]⟩]) := by rw [Hid, hV]; exact Pq.at4 S2.out O2.out n2 false _
  clear hV S2 O2 c0 c1 c2 cf cl d0 d1 d2 df dl
  generalize W2.heap.size = X at PV ⊢
  obtain ⟨c0, c1, c2, cf, cl, d0, d1, d2, df, dl⟩ := PV.out.sp.cells
  obtain ⟨x0, x1, x2, x3, x4, xf, xl⟩ := fiveP PV.out.xb
  obtain ⟨y0, y1, y2, y3, y4, yf, yl⟩ := fiveP PV.out.o2
  have g1 : ((s[n2].toNat : Int) == 61) = false := by simpa using hc1
  have g2 : ((s[n2].toNat : Int) == 94) = false := by simpa using hc2
  clear hc1 hc2
  go_wp2_with fail
  refine Calls.mono (HW3.out _) ?_
  rintro e W3 ⟨rfl, b3'⟩
  have PV3 : Hid _ := PV.out.below b3'
  have HS3 : Hid (Below W3.heap.size W3 (W3.alloc (.cells #[.string s, .int .i64 (k3 : Int), .bool b3] 196))) := (Below.refl _ _).alloc (Nat.le_refl _) _
  clear b3' HW3 PV c0 c1 c2 cf cl d0 d1 d2 df dl x0 x1 x2 x3 x4 xf xl y0 y1 y2 y3 y4 yf yl
  obtain ⟨c0, c1, c2, cf, cl, d0, d1, d2, df, dl⟩ := PV3.out.sp.cells
  rcases HG.out with hb3 | ⟨hb3, hwd⟩
  all_goals
    try subst hwd
    subst hb3
    clear HG
    go_wp2_with fail
    refine Calls.mono (HW4.out _) ?_
    rintro e W4 ⟨rfl, b4'⟩
    have PV4 : Hid _ := (PV3.out.below HS3.out).below b4'
    clear b4' PV3 HS3 HW4 c0 c1 c2 cf cl d0 d1 d2 df dl
    have HS4 : Hid (Below W4.heap.size W4 (W4.alloc (.cells #[.string s, .int .i64 (k4 : Int), .bool b4] 196))) := (Below.refl _ _).alloc (Nat.le_refl _) _
    go_wp2_with fail
    refine Calls.mono (HW5.out _) ?_
    rintro e W5 ⟨rfl, b5'⟩
    have PV5 : Hid _ := (PV4.out.below HS4.out).below b5'
    clear b5' PV4 HS4 HW5
    go_wp2_with fail
    refine Calls.mono (HW6.out _) ?_
    rintro e W6 ⟨rfl, b6'⟩
    have PV6 : Hid _ := PV5.out.below b6'
    clear b6' PV5 HW6
    obtain ⟨c0, c1, c2, cf, cl, d0, d1, d2, df, dl⟩ := PV6.out.sp.cells
    obtain ⟨x0, x1, x2, x3, x4, xf, xl⟩ := fiveP PV6.out.xb
    obtain ⟨y0, y1, y2, y3, y4, yf, yl⟩ := fiveP PV6.out.o2
    go_upto_region 24 with fail
    obtain ⟨U, hU⟩ : ∃ U, U = ((W6.setCell ⟨X, 1, none⟩ (.int .i64 1)).setCell ⟨X, 2, none⟩ (.int .i64 lo)).setCell ⟨X, 3, none⟩ (.int .i64 hi) := ⟨_, rfl⟩
    have PU : Hid (Pq w U s n2 false X #[.string NMB, .int .i64 1, .int .i64 lo, .int .i64 hi, .string ⟨#[]⟩]) := by
      rw [Hid, hU]; exact ((PV6.out.setx 1 _ rfl).setx 2 _ rfl).setx 3 _ rfl
    have hUs : U.heap.size = W6.heap.size := by rw [hU]; simp [World.setCell]
    rw [← hU]
    rw [← hUs]
    obtain ⟨V, hV⟩ : ∃ V, V = U.alloc (.cells #[.string s, .int .i64 (k6 : Int), .bool b6] 196) := ⟨_, rfl⟩
    have PV : Hid (Pq w V s n2 false X #[.string NMB, .int .i64 1, .int .i64 lo, .int .i64 hi, .string ⟨#[]⟩]) := by rw [Hid, hV]; exact PU.out.below ((Below.refl _ _).alloc (Nat.le_refl _) _)
    have QV : Hid (V.heap[U.heap.size]? = some (.cells #[.string s, .int .i64 (k6 : Int), .bool b6] 196 (0, 0))) := by rw [Hid, hV]; exact heap_alloc_new U _
    rw [← hV]
    generalize U.heap.size = Q at QV ⊢
    clear hV hU hUs PU PV6 c0 c1 c2 cf cl d0 d1 d2 df dl x0 x1 x2 x3 x4 xf xl y0 y1 y2 y3 y4 yf yl
    obtain ⟨c0, c1, c2, cf, cl, d0, d1, d2, df, dl⟩ := PV.out.sp.cells
    obtain ⟨x0, x1, x2, x3, x4, xf, xl⟩ := fiveP PV.out.xb
    obtain ⟨y0, y1, y2, y3, y4, yf, yl⟩ := fiveP PV.out.o2
    have xn := PV.out.xl
    have n1 : ¬ X = w.heap.size := by omega
    have n2' : ¬ X = w.heap.size + 1 := by omega
    have n3 : ¬ X = w.heap.size + 1 + 1 := by omega
    have n4 : ¬ w.heap.size = X := by omega
    have n5 : ¬ w.heap.size + 1 = X := by omega
    have n6 : ¬ w.heap.size + 1 + 1 = X := by omega
    have n7 : ¬ w.heap.size + 1 + 1 = w.heap.size := by omega
    have n8 : ¬ w.heap.size = w.heap.size + 1 + 1 := by omega
    clear xn
    have HBL : Hid (Below w.heap.size w V) := PV.out.sp.bel
    obtain ⟨q0, q1, q2, qf, ql⟩ := threeP QV.out
    go_region
    all_goals
      go_wp2_with fail
      refine bodyPost_ret (v := .tuple #[.agg #[.string s, .int .i64 (k6 : Int), .bool b6], .agg #[.string NMB, .int .i64 1, .int .i64 lo, .int .i64 hi, .string ⟨#[]⟩]]) (by simp [results, Tryz.results87, go_sem, *]) rfl ⟨HANS.out, ?_⟩
      refine below_drewP ?_
      repeat (refine Below.setCell ?_ (by simp; try omega) _)
      exact HBL.out
end Go.Proofs.YtkncpojijfeahaaGreatDoor
