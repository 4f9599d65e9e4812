/- Give. -/
import Derived.Test.YtkncpojijfeahaaGreatDoorBkDo2
namespace Go.Proofs.YtkncpojijfeahaaGreatDoor
open Go.ChangeShapes Go.WideShapes Go.ChangeAt Go.RowKit Go.Deep
open Go.ChangeMaps (setBlock)
set_option linter.unusedVariables false

/-- The code of Give. -/
def GiveC (S : List At) (E : List Bev) (U : List Bsb) (G : List Bgf) (k : Bgf) (vs : List Vl) (pay : ByteArray) (c : Int) : Prop :=
  (c = 9 ∧ ∀ y ∈ E, y.key ≠ k.2) ∨ ∃ y ∈ E, y.key = k.2 ∧ ((c = 11 ∧ ¬ (y.vs = vs ∧ y.pay = pay)) ∨ ((y.vs = vs ∧ y.pay = pay) ∧ ((c = 12 ∧ ∀ x ∈ U, x.key ≠ k.1) ∨
    ∃ x ∈ U, x.key = k.1 ∧ ((c = 3 ∧ ¬ MatchOk S x.ps y.vs y.pay.size) ∨ (MatchOk S x.ps y.vs y.pay.size ∧ ((c = 5 ∧ k ∈ G) ∨ (c = 0 ∧ k ∉ G)))))))
def BGiv (e : Ending) (w' : World) (p ge gs gg : Nat) (S : List At) (E : List Bev) (U : List Bsb) (G : List Bgf) (k : Bgf) (vs : List Vl) (pay : ByteArray) : Prop :=
  (GiveC S E U G k vs pay 0 ∧ e = .returned .nilIface ∧ BdAt w' p ge gs gg S E U (G ++ [k])) ∨
  ∃ c : Int, c ≠ 0 ∧ GiveC S E U G k vs pay c ∧ e = .returned (.iface 52 (.int .i64 c)) ∧ BdAt w' p ge gs gg S E U G
theorem BdAt.look_ev {w : World} {p ge gs gg : Nat} {S : List At} {E : List Bev} {U : List Bsb} {G : List Bgf} (h : BdAt w p ge gs gg S E U G) (k : Int × Int) :
    ∃ (a : Option Addr) (n c : Nat) (s : ByteArray) (b : Bool), (∀ w', Below w.heap.size w w' → (Instr.lookup 81 (.map (some ge)) (.agg #[.int .i64 k.1, .int .i64 k.2]) true).run Tryz.prog w' = .ok (.tuple #[.agg #[.slice a n c, .string s], .bool b]) w') ∧
      Hid ((b = false ∧ ∀ e ∈ E, e.key ≠ k) ∨ (b = true ∧ ∃ e ∈ E, e.key = k ∧ s = e.pay ∧ VlIn w (.slice a n c) e.vs)) := by
  rcases h.ask_ev k with ⟨h1, h2⟩ | ⟨e, u, h1, h2, h3, h4⟩
  · exact ⟨none, 0, 0, ByteArray.empty, false, h2, .inl ⟨rfl, h1⟩⟩
  · obtain ⟨a, c, rfl, _⟩ := h3.shape
    exact ⟨a, e.vs.length, c, e.pay, true, h4, .inr ⟨rfl, e, h1, h2, rfl, h3⟩⟩
theorem BdAt.look_sb {w : World} {p ge gs gg : Nat} {S : List At} {E : List Bev} {U : List Bsb} {G : List Bgf} (h : BdAt w p ge gs gg S E U G) (k : Int × Int) :
    ∃ (a : Option Addr) (n c : Nat) (b : Bool), (∀ w', Below w.heap.size w w' → (Instr.lookup 82 (.map (some gs)) (.agg #[.int .i64 k.1, .int .i64 k.2]) true).run Tryz.prog w' = .ok (.tuple #[.slice a n c, .bool b]) w') ∧
      Hid ((b = false ∧ ∀ e ∈ U, e.key ≠ k) ∨ (b = true ∧ ∃ e ∈ U, e.key = k ∧ PdIn w (.slice a n c) e.ps)) := by
  rcases h.ask_sb k with ⟨h1, h2⟩ | ⟨e, a, c, h1, h2, h3, h4⟩
  · exact ⟨none, 0, 0, false, h2, .inl ⟨rfl, h1⟩⟩
  · exact ⟨a, e.ps.length, c, true, h4, .inr ⟨rfl, e, h1, h2, h3⟩⟩
theorem evok_len {S : List At} {vs : List Vl} {n : Nat} (hs : SchemaOk S) (h : EventOk S vs n) : vs.length ≤ 1000 := by have := h.1; have := hs.2.1; omega
theorem evok_str {S : List At} {vs : List Vl} {n : Nat} (h : EventOk S vs n) : ∀ i, i < vs.length → (vs.getD i vl0).str.size ≤ maxLen := fun i hi => by
  have hl := h.1
  rcases h.2.2 i (by omega) with q | q
  · rw [q.2.2.2]; simp
  · have := q.2.1.le; unfold maxLen; omega
theorem filok_len {S : List At} {ps : List Pd} (h : FilterOk S ps) : ps.length ≤ 1000 := by have := h.2.1; omega
theorem filok_str {S : List At} {ps : List Pd} (h : FilterOk S ps) : ∀ i, i < ps.length → (ps.getD i pd0).str.size ≤ maxLen := fun i hi => by
  obtain ⟨k, _, q⟩ := (h.2.2 i hi).2
  rcases q with q | q
  · rw [q.2.2.2.2.2]; simp
  · have := q.2.2.1.le; unfold maxLen; omega
/-- Match on the board. -/
theorem bmatch {w : World} {p ge gs gg : Nat} {S : List At} {E : List Bev} {U : List Bsb} {G : List Bgf} {sv : Value} {x : Bsb} {y : Bev} {u v : Value} (h : BdAt w p ge gs gg S E U G) (hs : AtIn w sv S) (hx : x ∈ U) (hy : y ∈ E) (hu : PdIn w u x.ps) (hv : VlIn w v y.vs) :
    Calls Tryz.prog 27 #[sv, u, .agg #[v, .string y.pay]] w fun e w' => Says e (MatchOk S x.ps y.vs y.pay.size) ∧ Below w.heap.size w w' := by
  have ok := h.eok y hy
  have fk := h.uok x hx
  exact match_any sv u v S x.ps y.vs y.pay w hs hu hv (by have := h.sok.2.1; omega) (filok_len fk) (evok_len h.sok ok) (by have := ok.2.1; unfold maxLen; omega) (filok_str fk) (evok_str ok)

set_option maxRecDepth 100000 in
set_option maxHeartbeats 8000000 in
theorem bgive_any (p ge gs gg : Nat) (S : List At) (E : List Bev) (U : List Bsb) (G : List Bgf) (n sub pub seq : Int) (u : Value) (vs : List Vl) (pay : ByteArray) (w : World) (h : BdAt w p ge gs gg S E U G) (hu : VlIn w u vs) (hl : vs.length ≤ 1000) :
    Calls Tryz.prog 16 #[.pointer (some ⟨p, 0, none⟩), .int .i64 n, .agg #[.int .i64 sub, .int .i64 pub, .int .i64 seq, u, .string pay]] w fun e w' => BGiv e w' p ge gs gg S E U G ((n, sub), (pub, seq)) vs pay ∧ Kb w w' ge gs gg := by
  obtain ⟨ua, uc, rfl, _⟩ := hu.shape
  obtain ⟨W1, hW1⟩ : ∃ W1, W1 = w.alloc (.cells #[.int .i64 sub, .int .i64 pub, .int .i64 seq, .slice ua vs.length uc, .string pay] 54) := ⟨_, rfl⟩
  have b1 : Below w.heap.size w W1 := by rw [hW1]; exact b_one _ _
  have d0 : W1.cell? ⟨w.heap.size, 0, none⟩ = some (.int .i64 sub) := by rw [hW1]; exact World.cell?_alloc_new ..
  have d1 : W1.cell? ⟨w.heap.size, 1, none⟩ = some (.int .i64 pub) := by rw [hW1]; simp
  have d2 : W1.cell? ⟨w.heap.size, 2, none⟩ = some (.int .i64 seq) := by rw [hW1]; simp
  have d3 : W1.cell? ⟨w.heap.size, 3, none⟩ = some (.slice ua vs.length uc) := by rw [hW1]; simp
  have d4 : W1.cell? ⟨w.heap.size, 4, none⟩ = some (.string pay) := by rw [hW1]; simp
  have H1 : Hid (BdAt W1 p ge gs gg S E U G ∧ VlIn W1 (.slice ua vs.length uc) vs ∧ vs.length ≤ 1000 ∧ Below w.heap.size w W1) := ⟨h.below b1, hu.below b1, hl, b1⟩
  clear h hu b1 hl
  generalize hq : w.heap.size = q at d0 d1 d2 d3 d4
  have dl := cell_block d0
  have HQ : Hid (w.heap.size = q) := hq
  go_enter Tryz.func16, Tryz.ntmps16
  go_upto_region 1 with fail
  rw [← hW1]
  try rw [hq]
  clear hW1 hq
  go_cut [7, 8] (fun a b wx => ∃ q1 q2 : Nat, a = .pointer (some ⟨q1, 0, none⟩) ∧ b = .pointer (some ⟨q2, 0, none⟩) ∧ Hid (Below W1.heap.size W1 wx ∧ wx.cell? ⟨q1, 0, none⟩ = some (.int .i64 n) ∧ wx.cell? ⟨q1, 1, none⟩ = some (.int .i64 sub) ∧ wx.cell? ⟨q2, 0, none⟩ = some (.int .i64 pub) ∧ wx.cell? ⟨q2, 1, none⟩ = some (.int .i64 seq)))
  case first =>
    go_region
    all_goals
      go_wp2
      go_meet
      exact ⟨_, _, rfl, rfl, ⟨⟨rfl, rfl, rfl, by simp; omega, fun k hk => (Below.heap_alloc _ _ _ (by simp; omega)).trans (Below.heap_alloc _ _ _ hk)⟩, by simp, by simp, by simp, by simp⟩⟩
  case rest =>
    rename World => W2
    obtain ⟨q1, q2, rfl, rfl, HC⟩ := hcut
    obtain ⟨hb2, t0, t1, s0, s1⟩ := HC.out
    have H2 : Hid (BdAt W2 p ge gs gg S E U G ∧ VlIn W2 (.slice ua vs.length uc) vs ∧ Below w.heap.size w W2) := ⟨H1.out.1.below hb2, H1.out.2.1.below hb2, H1.out.2.2.2.trans (hb2.mono H1.out.2.2.2.size)⟩
    have e3 := cell_grown d3 hb2
    have e4 := cell_grown d4 hb2
    have el := cell_block e3
    have tl := cell_block t0
    have sl := cell_block s0
    obtain ⟨sa, sc, _, c0, c1, c2, c3, cl⟩ := H2.out.1.cells
    obtain ⟨ya, yn, yc, yp, eb, hlk, HEV⟩ := H2.out.1.look_ev (pub, seq)
    have hk1 := hlk W2.drew (b_drew W2)
    have hk2 := hlk (W2.alloc (.cells #[.slice none 0 0, .string ⟨#[]⟩] 27)).drew ((b_one W2 _).trans (show Below W2.heap.size _ _ from ⟨rfl, rfl, rfl, Nat.le_refl _, fun _ _ => rfl⟩))
    simp only at hk1 hk2
    clear d0 d1 d2 d3 d4 dl hb2 hlk HC
    go_upto_region 2 with fail
    go_cut [9, 10] (fun a b wx => ∃ q3 : Nat, a = .pointer (some ⟨q3, 0, none⟩) ∧ b = .bool eb ∧ Hid (Below W2.heap.size W2 wx ∧ wx.cell? ⟨q3, 0, none⟩ = some (.slice ya yn yc) ∧ wx.cell? ⟨q3, 1, none⟩ = some (.string yp)))
    case first =>
      go_region
      all_goals
        go_wp2
        go_meet
        exact ⟨_, rfl, rfl, ⟨⟨rfl, rfl, rfl, by simp, fun k hk => Below.heap_alloc _ _ _ hk⟩, by simp, by simp⟩⟩
    case rest =>
      rename World => W3
      obtain ⟨q3, rfl, rfl, HC⟩ := hcut
      obtain ⟨hb3, v0, v1⟩ := HC.out
      have H3 : Hid (BdAt W3 p ge gs gg S E U G ∧ VlIn W3 (.slice ua vs.length uc) vs ∧ Below w.heap.size w W3 ∧ Below W2.heap.size W2 W3) := ⟨H2.out.1.below hb3, H2.out.2.1.below hb3, H2.out.2.2.trans (hb3.mono H2.out.2.2.size), hb3⟩
      clear hk1 hk2 c0 c1 c2 c3 cl HC
      replace t0 := cell_grown t0 hb3
      replace t1 := cell_grown t1 hb3
      replace s0 := cell_grown s0 hb3
      replace s1 := cell_grown s1 hb3
      replace e3 := cell_grown e3 hb3
      replace e4 := cell_grown e4 hb3
      replace el := cell_block e3
      replace tl := cell_block t0
      replace sl := cell_block s0
      have vl := cell_block v0
      clear hb3
      obtain ⟨sa, sc, hsA, c0, c1, c2, c3, cl⟩ := H3.out.1.cells
      have HSA : Hid (AtIn W3 (.slice sa S.length sc) S) := hsA
      obtain ⟨fa, fn, fc, fb, hlk, HSB⟩ := H3.out.1.look_sb (n, sub)
      have hk1 := hlk W3.drew (b_drew W3)
      simp only at hk1
      clear hlk hsA
      go_upto_region 3 with fail
      go_cut [11, 12] (fun a b wx => a = .slice fa fn fc ∧ b = .bool fb ∧ W3.drew = wx)
      case first =>
        go_region
        all_goals
          go_wp2
          go_meet
          exact ⟨rfl, rfl, rfl⟩
      case rest =>
        rename World => W4
        obtain ⟨rfl, rfl, hw4⟩ := hcut
        have hb4 : Below W3.heap.size W3 W4 := by rw [← hw4]; exact b_drew W3
        clear hw4 hk1 c0 c1 c2 c3 cl
        have H4 : Hid (BdAt W4 p ge gs gg S E U G ∧ VlIn W4 (.slice ua vs.length uc) vs ∧ Below w.heap.size w W4 ∧ Below W2.heap.size W2 W4 ∧ AtIn W4 (.slice sa S.length sc) S) := ⟨H3.out.1.below hb4, H3.out.2.1.below hb4, H3.out.2.2.1.trans (hb4.mono H3.out.2.2.1.size), H3.out.2.2.2.trans (hb4.mono H3.out.2.2.2.size), HSA.out.below hb4⟩
        have HSB2 : Hid ((fb = false ∧ ∀ e ∈ U, e.key ≠ (n, sub)) ∨ (fb = true ∧ ∃ e ∈ U, e.key = (n, sub) ∧ PdIn W4 (.slice fa fn fc) e.ps)) := by
          rcases HSB.out with z | ⟨z1, z2, z3, z4, z5⟩
          · exact .inl z
          · exact .inr ⟨z1, z2, z3, z4, z5.below hb4⟩
        replace t0 := cell_grown t0 hb4
        replace t1 := cell_grown t1 hb4
        replace s0 := cell_grown s0 hb4
        replace s1 := cell_grown s1 hb4
        replace e3 := cell_grown e3 hb4
        replace e4 := cell_grown e4 hb4
        replace v0 := cell_grown v0 hb4
        replace v1 := cell_grown v1 hb4
        replace el := cell_block e3
        replace tl := cell_block t0
        replace sl := cell_block s0
        replace vl := cell_block v0
        clear hb4 HSB HSA H3
        rcases HEV.out with ⟨rfl, hno⟩ | ⟨rfl, y, hy, hyk, rfl, hyv⟩
        · have HN : Hid (∀ e ∈ E, e.key ≠ (pub, seq)) := hno
          clear hno
          go_wp2
          go_ret
          exact ⟨.inr ⟨9, by decide, .inl ⟨rfl, HN.out⟩, rfl, H4.out.1⟩, Kb.ofBelow H4.out.2.2.1⟩
        · have hy1 := evok_len H4.out.1.sok (H4.out.1.eok y hy)
          have HSM := bsame_any _ _ y.vs vs y.pay pay W4 (hyv.below H4.out.2.2.2.1) H4.out.2.1 hy1 H1.out.2.2.1
          have HY : Hid (y ∈ E ∧ y.key = (pub, seq) ∧ VlIn W4 (.slice ya yn yc) y.vs) := ⟨hy, hyk, hyv.below H4.out.2.2.2.1⟩
          obtain ⟨yp, hyp⟩ : ∃ yp, yp = y.pay := ⟨_, rfl⟩
          rw [← hyp] at v1 HSM
          have HYP : Hid (yp = y.pay) := hyp
          clear hy hyk hyv hy1 hyp
          by_cases hs : y.vs = vs ∧ yp = pay
          · have HS : Hid (Calls Tryz.prog 33 #[.agg #[.slice ya yn yc, .string yp], .agg #[.slice ua vs.length uc, .string pay]] W4 fun e w' => e = .returned (.bool true) ∧ Below W4.heap.size W4 w') := HSM.mono (fun e w' z => ⟨z.1.t hs, z.2⟩)
            have HSE : Hid (y.vs = vs ∧ y.pay = pay) := ⟨hs.1, by rw [← HYP.out]; exact hs.2⟩
            clear HSM hs
            go_wp2_with fail
            refine Calls.mono HS.out ?_
            rintro e w5 ⟨rfl, b5⟩
            have H5 : Hid (BdAt w5 p ge gs gg S E U G ∧ Below w.heap.size w w5 ∧ AtIn w5 (.slice sa S.length sc) S ∧ VlIn w5 (.slice ya yn yc) y.vs ∧ Below W4.heap.size W4 w5) := ⟨H4.out.1.below b5, H4.out.2.2.1.trans (b5.mono H4.out.2.2.1.size), H4.out.2.2.2.2.below b5, HY.out.2.2.below b5, b5⟩
            replace t0 := cell_grown t0 b5
            replace t1 := cell_grown t1 b5
            replace s0 := cell_grown s0 b5
            replace s1 := cell_grown s1 b5
            replace v0 := cell_grown v0 b5
            replace v1 := cell_grown v1 b5
            replace tl := cell_block t0
            replace sl := cell_block s0
            replace vl := cell_block v0
            clear b5 e3 e4 el HS
            rcases HSB2.out with ⟨rfl, hno⟩ | ⟨rfl, x, hx, hxk, hxP⟩
            · have HN : Hid (∀ e ∈ U, e.key ≠ (n, sub)) := hno
              clear hno
              go_wp2
              go_ret
              exact ⟨.inr ⟨12, by decide, .inr ⟨y, HY.out.1, HY.out.2.1, .inr ⟨HSE.out, .inl ⟨rfl, HN.out⟩⟩⟩, rfl, H5.out.1⟩, Kb.ofBelow H5.out.2.1⟩
            · have HX : Hid (x ∈ U ∧ x.key = (n, sub)) := ⟨hx, hxk⟩
              obtain ⟨sb, sd, hsB, c0, _, _, c3, cl⟩ := H5.out.1.cells
              have HMT : ∀ W, Below w5.heap.size w5 W → Calls Tryz.prog 27 #[.slice sb S.length sd, .slice fa fn fc, .agg #[.slice ya yn yc, .string yp]] W fun e w' => Says e (MatchOk S x.ps y.vs y.pay.size) ∧ Below w5.heap.size w5 w' := fun W hW => by
                have hh := H5.out.1.below hW
                have hmt := bmatch hh (hsB.below hW) hx HY.out.1 ((hxP.below H5.out.2.2.2.2).below hW) (H5.out.2.2.2.1.below hW)
                rw [← HYP.out] at hmt ⊢
                refine hmt.mono ?_
                rintro e w' ⟨h1, h2⟩
                exact ⟨h1, hW.trans (h2.mono hW.size)⟩
              clear hx hxk hxP hsB
              by_cases hm : MatchOk S x.ps y.vs y.pay.size
              · -- it takes it
                have HMT2 : Hid (∀ W, Below w5.heap.size w5 W → Calls Tryz.prog 27 #[.slice sb S.length sd, .slice fa fn fc, .agg #[.slice ya yn yc, .string yp]] W fun e w' => e = .returned (.bool true) ∧ Below w5.heap.size w5 w') := fun W hW => (HMT W hW).mono (fun e w' z => ⟨z.1.t hm, z.2⟩)
                have HMO : Hid _ := hm
                clear HMT hm
                go_upto_region 10 with fail
                go_cut [55] (fun v wx => v = .bool false ∧ Hid (Below w5.heap.size w5 wx))
                case first =>
                  go_region_held3 (fun W' => W'.cell? ⟨p, 0, none⟩ = some (.slice sb S.length sd) ∧ W'.cell? ⟨q3, 0, none⟩ = some (.slice ya yn yc) ∧ W'.cell? ⟨q3, 1, none⟩ = some (.string yp))
                    (first
                      | go_keep
                      | assumption)
                    ((go_at_call 27; refine Calls.mono (HMT2.out _ ?_) ?_; exact ⟨rfl, rfl, rfl, Nat.le_refl _, fun _ _ => rfl⟩; rintro e wV ⟨rfl, hV⟩
                      have BV : Hid (Below w5.heap.size w5 wV) := hV
                      have z0 := cell_grown c0 hV
                      have z1 := cell_grown v0 hV
                      have z2 := cell_grown v1 hV
                      have zl := cell_block z0
                      have zm := cell_block z1
                      clear hV))
                  all_goals
                    go_wp2
                    go_meet
                    exact ⟨rfl, BV⟩
                case rest =>
                  rename World => W6
                  obtain ⟨rfl, HB6⟩ := hcut
                  have H6 : Hid (BdAt W6 p ge gs gg S E U G ∧ Below w.heap.size w W6) := ⟨H5.out.1.below HB6.out, H5.out.2.1.trans (HB6.out.mono H5.out.2.1.size)⟩
                  replace t0 := cell_grown t0 HB6.out
                  replace t1 := cell_grown t1 HB6.out
                  replace s0 := cell_grown s0 HB6.out
                  replace s1 := cell_grown s1 HB6.out
                  replace tl := cell_block t0
                  replace sl := cell_block s0
                  clear c0 c3 cl v0 v1 vl HMT2
                  go_wp2_with fail
                  refine (bhas_any p ge gs gg S E U G n sub pub seq _ H6.out.1).mono ?_
                  rintro e w7 ⟨rfl, b7⟩
                  have H7 : Hid (BdAt w7 p ge gs gg S E U G ∧ Below w.heap.size w w7) := ⟨H6.out.1.below b7, H6.out.2.trans (b7.mono H6.out.2.size)⟩
                  replace t0 := cell_grown t0 b7
                  replace t1 := cell_grown t1 b7
                  replace s0 := cell_grown s0 b7
                  replace s1 := cell_grown s1 b7
                  replace tl := cell_block t0
                  replace sl := cell_block s0
                  clear b7
                  by_cases hg : ((n, sub), (pub, seq)) ∈ G
                  · rw [decide_eq_true hg]
                    have HG : Hid (((n, sub), (pub, seq)) ∈ G) := hg
                    clear hg
                    go_wp2
                    go_ret
                    exact ⟨.inr ⟨5, by decide, .inr ⟨y, HY.out.1, HY.out.2.1, .inr ⟨HSE.out, .inr ⟨x, HX.out.1, HX.out.2, .inr ⟨HMO.out, .inl ⟨rfl, HG.out⟩⟩⟩⟩⟩, rfl, H7.out.1⟩, Kb.ofBelow H7.out.2⟩
                  · rw [decide_eq_false hg]
                    have HG : Hid (((n, sub), (pub, seq)) ∉ G) := hg
                    obtain ⟨w9, hput, p2, p3⟩ := H7.out.1.drew.put_gf ((n, sub), (pub, seq)) hg
                    simp only at hput
                    have H9 : Hid (BdAt w9 p ge gs gg S E U (G ++ [((n, sub), (pub, seq))]) ∧ Kb w w9 ge gs gg) := ⟨p2, (Kb.ofBelow (H7.out.2.trans ((b_drew w7).mono H7.out.2.size))).trans p3⟩
                    obtain ⟨_, _, _, _, _, _, c3, cl⟩ := H7.out.1.cells
                    clear hg p2 p3
                    go_wp2
                    go_region
                    go_wp2
                    go_ret
                    exact ⟨.inl ⟨.inr ⟨y, HY.out.1, HY.out.2.1, .inr ⟨HSE.out, .inr ⟨x, HX.out.1, HX.out.2, .inr ⟨HMO.out, .inr ⟨rfl, HG.out⟩⟩⟩⟩⟩, rfl, H9.out.1⟩, H9.out.2⟩
              · -- it doesn't
                have HMT2 : Hid (∀ W, Below w5.heap.size w5 W → Calls Tryz.prog 27 #[.slice sb S.length sd, .slice fa fn fc, .agg #[.slice ya yn yc, .string yp]] W fun e w' => e = .returned (.bool false) ∧ Below w5.heap.size w5 w') := fun W hW => (HMT W hW).mono (fun e w' z => ⟨z.1.f hm, z.2⟩)
                have HMO : Hid _ := hm
                clear HMT hm
                go_upto_region 10 with fail
                go_cut [55] (fun v wx => v = .bool true ∧ Hid (Below w5.heap.size w5 wx))
                case first =>
                  go_region_held3 (fun W' => W'.cell? ⟨p, 0, none⟩ = some (.slice sb S.length sd) ∧ W'.cell? ⟨q3, 0, none⟩ = some (.slice ya yn yc) ∧ W'.cell? ⟨q3, 1, none⟩ = some (.string yp))
                    (first
                      | go_keep
                      | assumption)
                    ((go_at_call 27; refine Calls.mono (HMT2.out _ ?_) ?_; exact ⟨rfl, rfl, rfl, Nat.le_refl _, fun _ _ => rfl⟩; rintro e wV ⟨rfl, hV⟩
                      have BV : Hid (Below w5.heap.size w5 wV) := hV
                      have z0 := cell_grown c0 hV
                      have z1 := cell_grown v0 hV
                      have z2 := cell_grown v1 hV
                      have zl := cell_block z0
                      have zm := cell_block z1
                      clear hV))
                  all_goals
                    go_wp2
                    go_meet
                    exact ⟨rfl, BV⟩
                case rest =>
                  rename World => W6
                  obtain ⟨rfl, HB6⟩ := hcut
                  have H6 : Hid (BdAt W6 p ge gs gg S E U G ∧ Below w.heap.size w W6) := ⟨H5.out.1.below HB6.out, H5.out.2.1.trans (HB6.out.mono H5.out.2.1.size)⟩
                  clear c0 c3 cl v0 v1 vl HMT2 t0 t1 s0 s1 tl sl
                  go_wp2
                  go_ret
                  exact ⟨.inr ⟨3, by decide, .inr ⟨y, HY.out.1, HY.out.2.1, .inr ⟨HSE.out, .inr ⟨x, HX.out.1, HX.out.2, .inl ⟨rfl, HMO.out⟩⟩⟩⟩, rfl, H6.out.1⟩, Kb.ofBelow H6.out.2⟩
          · have HS : Hid (Calls Tryz.prog 33 #[.agg #[.slice ya yn yc, .string yp], .agg #[.slice ua vs.length uc, .string pay]] W4 fun e w' => e = .returned (.bool false) ∧ Below W4.heap.size W4 w') := HSM.mono (fun e w' z => ⟨z.1.f hs, z.2⟩)
            have HSE : Hid (¬ (y.vs = vs ∧ y.pay = pay)) := fun q => hs ⟨q.1, by rw [HYP.out]; exact q.2⟩
            clear HSM hs
            go_wp2_with fail
            refine Calls.mono HS.out ?_
            rintro e w5 ⟨rfl, b5⟩
            have H5 : Hid (BdAt w5 p ge gs gg S E U G ∧ Below w.heap.size w w5) := ⟨H4.out.1.below b5, H4.out.2.2.1.trans (b5.mono H4.out.2.2.1.size)⟩
            clear b5 t0 t1 s0 s1 v0 v1 tl sl vl e3 e4 el HS
            go_wp2
            go_ret
            exact ⟨.inr ⟨11, by decide, .inr ⟨y, HY.out.1, HY.out.2.1, .inl ⟨rfl, HSE.out⟩⟩, rfl, H5.out.1⟩, Kb.ofBelow H5.out.2⟩
end Go.Proofs.YtkncpojijfeahaaGreatDoor
