/- Due. -/
import Derived.Test.YtkncpojijfeahaaGreatDoorBkGive
import Derived.Test.YtkncpojijfeahaaGreatDoorBkSort2
namespace Go.Proofs.YtkncpojijfeahaaGreatDoor
open Go.ChangeShapes Go.WideShapes Go.ChangeAt Go.RowKit Go.Deep
open Go.ChangeMaps (setBlock)
set_option linter.unusedVariables false

theorem nodup_sub2 : ∀ (t l : List (Int × Int)), t.Nodup → (∀ x, x ∈ t → x ∈ l) → t.length ≤ l.length
  | [], l, _, _ => Nat.zero_le _
  | a :: t, l, hp, hs => by
    have ha : a ∈ l := hs a (by simp)
    obtain ⟨h1, h2⟩ := List.nodup_cons.1 hp
    have ih := nodup_sub2 t (l.erase a) h2 (fun x hx => (List.mem_erase_of_ne (show x ≠ a from fun e => h1 (by rw [← e]; exact hx))).2 (hs x (List.mem_cons_of_mem _ hx)))
    have := List.length_erase_of_mem ha
    have : 0 < l.length := List.length_pos_of_mem ha
    simp only [List.length_cons]
    omega
/-- Pairs of a slice. -/
structure WhIn (w : World) (v : Value) (L : List (Int × Int)) : Prop where
  shape : ∃ a c, v = .slice a L.length c ∧ L.length ≤ c ∧ (0 < L.length → ∃ g, a = some ⟨g, 0, none⟩ ∧ g < w.heap.size ∧ ∀ j, j < L.length → w.cell? ⟨g, j * 2, none⟩ = some (.int .i64 (L.getD j (0, 0)).1) ∧ w.cell? ⟨g, j * 2 + 1, none⟩ = some (.int .i64 (L.getD j (0, 0)).2))
theorem WhIn.kc {w w' : World} {v : Value} {L : List (Int × Int)} (h : WhIn w v L) (k : Kc w w') : WhIn w' v L := by
  obtain ⟨a, c, hv, hc, hh⟩ := h.shape
  refine ⟨a, c, hv, hc, fun hp => ?_⟩
  obtain ⟨g, ha, hg, hj⟩ := hh hp
  exact ⟨g, ha, Nat.lt_of_lt_of_le hg k.size, fun j hl => ⟨k.at (hj j hl).1, k.at (hj j hl).2⟩⟩
/-- Who takes an event, and didn't get it. -/
def DueK (S : List At) (G : List Bgf) (k : Int × Int) (y : Bev) (u : Bsb) : Prop := MatchOk S u.ps y.vs y.pay.size ∧ (u.key, k) ∉ G
/-- On the way. -/
structure DueSt (W wr : World) (gs r : Nat) (m : List ((Int × Int) × Value)) (P : Int × Int → Prop) (D L : List (Int × Int)) (v : Value) : Prop where
  it : ItK kv2 wr gs r m D
  bel : Below W.heap.size W wr
  row : wr.ownsRow (r + 1) 44 2 v L.length (L.flatMap encW)
  dn : D.Nodup
  dm : ∀ k ∈ D, k ∈ m.map (·.1)
  ln : L.Nodup
  lm : ∀ k, k ∈ L ↔ k ∈ D ∧ P k
theorem DueSt.le {W wr : World} {gs r : Nat} {m : List ((Int × Int) × Value)} {P : Int × Int → Prop} {D L : List (Int × Int)} {v : Value} (h : DueSt W wr gs r m P D L v) : L.length ≤ m.length := by
  have h1 := nodup_sub2 L D h.ln (fun x hx => ((h.lm x).1 hx).1)
  have h2 := nodup_sub2 D (m.map (·.1)) h.dn h.dm
  rw [List.length_map] at h2
  omega
theorem DueSt.lt {W wr : World} {gs r : Nat} {m : List ((Int × Int) × Value)} {P : Int × Int → Prop} {D L : List (Int × Int)} {v x : Value} (h : DueSt W wr gs r m P D L v) {k : Int × Int} (hm : (k, x) ∈ m) (hk : k ∉ D) : D.length < m.length := by
  have h2 := nodup_sub2 (D ++ [k]) (m.map (·.1)) (List.nodup_append.2 ⟨h.dn, by simp, fun a ha b hb e => by simp at hb; subst hb; subst e; exact hk ha⟩) (fun x hx => by
    rcases List.mem_append.1 hx with q | q
    · exact h.dm x q
    · simp at q; subst q; exact List.mem_map.2 ⟨_, hm, rfl⟩)
  simp at h2
  omega
theorem flat_snocW (L : List (Int × Int)) (k : Int × Int) : (L ++ [k]).flatMap encW = L.flatMap encW ++ encW k := by simp
theorem src_who (w : World) (k : Int × Int) : Src Tryz.prog 2 48 (.slice (some ⟨w.heap.size, 0, none⟩) 1 1) 1 (encW k) (w.alloc (.cells #[.int .i64 k.1, .int .i64 k.2] 44)) :=
  Src.ofSlice _ Tryz.underlying48 _ 1 1 _ rfl (fun j u hu => by
    exact World.news_of_block (cs := #[.int .i64 k.1, .int .i64 k.2]) (t := 44) (fr := (0, 0)) (heap_alloc_new w _) j u (by simpa [encW] using hu)) (by simp [encW, Value.oneCell'])
theorem Tryz.infoWho : (Tryz.prog.info? 44).map (fun i => (i.zero, i.size, i.bytes)) = some (some (.agg #[.int .i64 0, .int .i64 0]), 2, 16) := by kernel_rfl
theorem row_atB {w w' : World} {B : Nat} {e : TypeId} {k n : Nat} {vs : Value} {xs : List Value} (h : w.ownsRow B e k vs n xs) (hb : ∀ x, B ≤ x → w'.heap[x]? = w.heap[x]?) : w'.ownsRow B e k vs n xs := by
  refine ⟨h.1, ?_⟩
  rcases h.2 with h1 | ⟨g, cap, cur, hv, hbg, hg, hr⟩
  · exact .inl h1
  · exact .inr ⟨g, cap, cur, hv, hbg, (hb g hbg).trans hg, hr⟩
theorem below_setB {w W : World} {B g : Nat} (h : Below B w W) (hg : B ≤ g) (o : Obj) : Below B w (setBlock W g o) :=
  ⟨h.os, h.tape, h.output, by rw [setB_size]; exact h.size, fun b hb => (setB_other (by omega) o).trans (h.block b hb)⟩
theorem key_one {U : List Bsb} (hn : (U.map Bsb.key).Nodup) {u v : Bsb} (hu : u ∈ U) (hv : v ∈ U) (e : u.key = v.key) : u = v := by
  induction U with
  | nil => cases hu
  | cons a U ih =>
    obtain ⟨h1, h2⟩ := List.nodup_cons.1 hn
    rcases List.mem_cons.1 hu with rfl | hu'
    · rcases List.mem_cons.1 hv with rfl | hv'
      · rfl
      · exact absurd (List.mem_map.2 ⟨v, hv', e.symm⟩) h1
    · rcases List.mem_cons.1 hv with rfl | hv'
      · exact absurd (List.mem_map.2 ⟨u, hu', e⟩) h1
      · exact ih h2 hu' hv'
/-- One more has come. -/
theorem DueSt.skip {W wr w5 : World} {gs r : Nat} {m : List ((Int × Int) × Value)} {P : Int × Int → Prop} {D L : List (Int × Int)} {v x : Value} (h : DueSt W wr gs r m P D L v) {k : Int × Int} (hm : (k, x) ∈ m) (hk : k ∉ D) (hit : ItK kv2 w5 gs r m (D ++ [k])) (hb : Below W.heap.size W w5) (hrow : w5.ownsRow (r + 1) 44 2 v L.length (L.flatMap encW)) (hP : ¬ P k) : DueSt W w5 gs r m P (D ++ [k]) L v := by
  refine ⟨hit, hb, hrow, List.nodup_append.2 ⟨h.dn, by simp, fun a ha b hb e => by simp at hb; subst hb; subst e; exact hk ha⟩, fun y hy => ?_, h.ln, fun y => ?_⟩
  · rcases List.mem_append.1 hy with q | q
    · exact h.dm y q
    · simp at q; subst q; exact List.mem_map.2 ⟨_, hm, rfl⟩
  · rw [h.lm, List.mem_append, List.mem_singleton]
    constructor
    · exact fun q => ⟨.inl q.1, q.2⟩
    · rintro ⟨q1 | q1, q2⟩
      · exact ⟨q1, q2⟩
      · subst q1; exact absurd q2 hP
theorem DueSt.take {W wr w5 : World} {gs r : Nat} {m : List ((Int × Int) × Value)} {P : Int × Int → Prop} {D L : List (Int × Int)} {v v' x : Value} (h : DueSt W wr gs r m P D L v) {k : Int × Int} (hm : (k, x) ∈ m) (hk : k ∉ D) (hit : ItK kv2 w5 gs r m (D ++ [k])) (hb : Below W.heap.size W w5) (hrow : w5.ownsRow (r + 1) 44 2 v' (L ++ [k]).length ((L ++ [k]).flatMap encW)) (hP : P k) : DueSt W w5 gs r m P (D ++ [k]) (L ++ [k]) v' := by
  have hkL : k ∉ L := fun q => hk ((h.lm k).1 q).1
  refine ⟨hit, hb, hrow, List.nodup_append.2 ⟨h.dn, by simp, fun a ha b hb e => by simp at hb; subst hb; subst e; exact hk ha⟩, fun y hy => ?_, List.nodup_append.2 ⟨h.ln, by simp, fun a ha b hb e => by simp at hb; subst hb; subst e; exact hkL ha⟩, fun y => ?_⟩
  · rcases List.mem_append.1 hy with q | q
    · exact h.dm y q
    · simp at q; subst q; exact List.mem_map.2 ⟨_, hm, rfl⟩
  · rw [List.mem_append, List.mem_append, List.mem_singleton, h.lm]
    constructor
    · rintro (q | q)
      · exact ⟨.inl q.1, q.2⟩
      · subst q; exact ⟨.inr rfl, hP⟩
    · rintro ⟨q1 | q1, q2⟩
      · exact .inl ⟨q1, q2⟩
      · exact .inr q1
/-- What Due answers. -/
def BDue (e : Ending) (w' : World) (S : List At) (E : List Bev) (U : List Bsb) (G : List Bgf) (k : Int × Int) : Prop :=
  ((∀ y ∈ E, y.key ≠ k) ∧ e = .returned (.tuple #[.slice none 0 0, .iface 52 (.int .i64 9)])) ∨
  ∃ y ∈ E, y.key = k ∧ ∃ v L, e = .returned (.tuple #[v, .nilIface]) ∧ DueL U (DueK S G k y) L ∧ WhIn w' v L

set_option maxRecDepth 100000 in
set_option maxHeartbeats 8000000 in
theorem bdue_any (p ge gs gg : Nat) (S : List At) (E : List Bev) (U : List Bsb) (G : List Bgf) (pub seq : Int) (w : World) (h : BdAt w p ge gs gg S E U G) (hU : U.length ≤ 1000) :
    Calls Tryz.prog 14 #[.pointer (some ⟨p, 0, none⟩), .int .i64 pub, .int .i64 seq] w fun e w' => BDue e w' S E U G (pub, seq) ∧ Below w.heap.size w w' := by
  obtain ⟨i0, hif, hz0, hz1, hz2⟩ := info_parts Tryz.infoWho
  obtain ⟨W1, hW1⟩ : ∃ W1, W1 = w.alloc (.cells #[.int .i64 pub, .int .i64 seq] 94) := ⟨_, rfl⟩
  have b1 : Below w.heap.size w W1 := by rw [hW1]; exact b_one _ _
  have s0 : W1.cell? ⟨w.heap.size, 0, none⟩ = some (.int .i64 pub) := by rw [hW1]; exact World.cell?_alloc_new ..
  have s1 : W1.cell? ⟨w.heap.size, 1, none⟩ = some (.int .i64 seq) := by rw [hW1]; simp
  have H1 : Hid (BdAt W1 p ge gs gg S E U G ∧ Below w.heap.size w W1 ∧ U.length ≤ 1000) := ⟨h.below b1, b1, hU⟩
  clear h b1 hU
  generalize hq : w.heap.size = q at s0 s1
  have sl := cell_block s0
  have HQ : Hid (w.heap.size = q) := hq
  obtain ⟨sa, sc, _, c0, c1, c2, c3, cl⟩ := H1.out.1.cells
  obtain ⟨ya, yn, yc, yp, eb, hlk, HEV⟩ := H1.out.1.look_ev (pub, seq)
  have hk1 := hlk W1.drew (b_drew W1)
  have hk2 := hlk (W1.alloc (.cells #[.slice none 0 0, .string ⟨#[]⟩] 27)).drew ((b_one W1 _).trans (show Below W1.heap.size _ _ from ⟨rfl, rfl, rfl, Nat.le_refl _, fun _ _ => rfl⟩))
  simp only at hk1 hk2
  clear hlk
  go_enter Tryz.func14, Tryz.ntmps14
  go_upto_region 2 with fail
  rw [← hW1]
  try rw [hq]
  clear hW1 hq
  go_cut [9, 10] (fun a b wx => ∃ q3 : Nat, a = .pointer (some ⟨q3, 0, none⟩) ∧ b = .bool eb ∧ Hid (Below W1.heap.size W1 wx ∧ wx.cell? ⟨q3, 0, none⟩ = some (.slice ya yn yc) ∧ wx.cell? ⟨q3, 1, none⟩ = some (.string yp)))
  case first =>
    go_region
    all_goals
      go_wp2
      go_meet
      exact ⟨_, rfl, rfl, ⟨⟨rfl, rfl, rfl, by simp, fun k hk => Below.heap_alloc _ _ _ hk⟩, by simp, by simp⟩⟩
  case rest =>
    rename World => W3
    obtain ⟨q3, rfl, rfl, HC⟩ := hcut
    obtain ⟨hb3, v0, v1⟩ := HC.out
    have H3 : Hid (BdAt W3 p ge gs gg S E U G ∧ Below w.heap.size w W3 ∧ Below W1.heap.size W1 W3) := ⟨H1.out.1.below hb3, H1.out.2.1.trans (hb3.mono H1.out.2.1.size), hb3⟩
    clear hk1 hk2 c0 c1 c2 c3 cl HC
    replace s0 := cell_grown s0 hb3
    replace s1 := cell_grown s1 hb3
    replace sl := cell_block s0
    have vl := cell_block v0
    clear hb3
    rcases HEV.out with ⟨rfl, hno⟩ | ⟨rfl, y, hy, hyk, rfl, hyv⟩
    · have HN : Hid (∀ e ∈ E, e.key ≠ (pub, seq)) := hno
      clear hno
      go_wp2
      go_ret2
      exact ⟨.inl ⟨HN.out, rfl⟩, by rw [← HQ.out]; exact H3.out.2.1⟩
    · have HY : Hid (y ∈ E ∧ y.key = (pub, seq) ∧ VlIn W3 (.slice ya yn yc) y.vs) := ⟨hy, hyk, hyv.below H3.out.2.2⟩
      obtain ⟨yp, hyp⟩ : ∃ yp, yp = y.pay := ⟨_, rfl⟩
      rw [← hyp] at v1
      have HYP : Hid (yp = y.pay) := hyp
      obtain ⟨m, hm, hr⟩ := H3.out.1.sb
      have HR : Hid (Rel2 (SbR W3) m U) := hr
      have HML : Hid (m.length = U.length) := rel2_len _ _ hr
      obtain ⟨o, hrun, hit⟩ := hm.start (P := Tryz.prog) Tryz.underlying82
      obtain ⟨r, hrr⟩ : ∃ r, r = W3.heap.size := ⟨_, rfl⟩
      obtain ⟨W4, hW4⟩ : ∃ W4, W4 = W3.alloc o := ⟨_, rfl⟩
      rw [← hW4, ← hrr] at hrun hit
      have HRR : Hid (r = W3.heap.size) := hrr
      have H4 : Hid (∃ D L, D.length = 0 ∧ DueSt W3 W4 gs r m (fun k => ∃ u ∈ U, u.key = k ∧ DueK S G (pub, seq) y u) D L (.slice none 0 0)) :=
        ⟨[], [], rfl, hit, by rw [hW4]; exact b_one _ _, World.ownsRow_nil _ _ _ _, List.nodup_nil, fun k hk => (by cases hk), List.nodup_nil, fun k => by simp⟩
      obtain ⟨sa, sc, hsA, c0, c1, c2, c3, cl⟩ := H3.out.1.cells
      have HSA : Hid (AtIn W3 (.slice sa S.length sc) S) := hsA
      have HC0 : Hid (W3.cell? ⟨p, 0, none⟩ = some (.slice sa S.length sc) ∧ W3.cell? ⟨q, 0, none⟩ = some (.int .i64 pub) ∧ W3.cell? ⟨q, 1, none⟩ = some (.int .i64 seq) ∧ W3.cell? ⟨q3, 0, none⟩ = some (.slice ya yn yc) ∧ W3.cell? ⟨q3, 1, none⟩ = some (.string yp)) := ⟨c0, s0, s1, v0, v1⟩
      clear hy hyk hyv hyp hm hr hit hW4 hrr hsA
      go_wp2
      clear hrun c0 c1 c2 c3 cl s0 s1 sl v0 v1 vl
      go_loopg [11] m.length (fun kx v wr => ∃ (a : Option Addr) (n c : Nat), v = .slice a n c ∧ Hid (∃ D L, kx = m.length - D.length ∧ L.length = n ∧ DueSt W3 wr gs r m (fun k => ∃ u ∈ U, u.key = k ∧ DueK S G (pub, seq) y u) D L (.slice a n c)))
      case atStart =>
        obtain ⟨D, L, h0, hd⟩ := H4.out
        have hL : L.length = 0 := by
          have := nodup_sub2 L D hd.ln (fun x hx => ((hd.lm x).1 hx).1)
          omega
        exact ⟨none, 0, 0, rfl, ⟨D, L, by rw [h0]; rfl, hL, hd⟩⟩
      case round =>
        obtain ⟨va, vn, vc, rfl, HB⟩ := hrel
        clear H4
        obtain ⟨D, L, hkx, hLn, hd⟩ := HB.out
        have HKX : Hid (_ = m.length - D.length ∧ L.length = vn) := ⟨hkx, hLn⟩
        have HD : Hid (DueSt W3 wr gs r m (fun k => ∃ u ∈ U, u.key = k ∧ DueK S G (pub, seq) y u) D L (.slice va vn vc)) := hd
        clear HB hkx hLn
        rcases hd.it.next (P := Tryz.prog) with ⟨hall, hrun⟩ | ⟨k, x, w5, hkm, hkD, hrun, hit5, hent, w5', o5, hw5', hw5⟩
        · have HAL : Hid (∀ k, k ∈ L ↔ ∃ u ∈ U, u.key = k ∧ DueK S G (pub, seq) y u) := fun k => by
            rw [HD.out.lm]
            refine ⟨fun z => z.2, fun z => ⟨?_, z⟩⟩
            obtain ⟨u, hu, hk, _⟩ := z
            obtain ⟨pp, hpp, hpr⟩ := rel2_right _ _ HR.out u hu
            have := hall pp hpp
            rw [hpr.1, hk] at this
            exact this
          clear hall hd
          rcases HD.out.row.2 with ⟨hv, hn0⟩ | ⟨g, cap', cur, hv, hBg, hg, hnc, _⟩
          · simp at hv
            obtain ⟨rfl, rfl, rfl⟩ := hv
            have hL0 : L = [] := List.eq_nil_of_length_eq_zero (by have := HKX.out.2; omega)
            have HL0 : Hid (L = []) := hL0
            clear hn0 hL0
            go_wp2_with (go_at_call 29; refine (sort_nilP _).mono ?_; rintro e w' ⟨rfl, hw'⟩; subst w')
            go_ret2
            have hb := H3.out.2.1.trans (HD.out.bel.mono H3.out.2.1.size)
            refine ⟨.inr ⟨y, HY.out.1, HY.out.2.1, .slice none 0 0, [], rfl, ⟨List.Pairwise.nil, fun k => ?_⟩, ⟨none, 0, rfl, Nat.le_refl _, fun h => by simp at h⟩⟩, by rw [← HQ.out]; exact hb⟩
            have := HAL.out k
            rw [HL0.out] at this
            exact this
          · simp at hv
            obtain ⟨rfl, _, rfl⟩ := hv
            have hll : L.length ≤ 100000 := by have := HD.out.le; have := HML.out; have := H1.out.2.2; omega
            have hLn := HKX.out.2
            subst hLn
            have HSW := sort_who (r + 1) g vc L wr HD.out.row HD.out.ln hll
            have HG : Hid (r + 1 ≤ g ∧ L.length ≤ vc) := ⟨hBg, hnc⟩
            have HS2 : Hid _ := HSW
            clear hBg hg hnc hll HSW
            go_wp2_with fail
            refine Calls.mono HS2.out ?_
            rintro e w9 ⟨rfl, L', hperm, hsort, hcells, hsz, hblk, hos, htp, hou⟩
            have HF : Hid (L'.Perm L ∧ L'.Pairwise ltP ∧ WhIn w9 (.slice (some ⟨g, 0, none⟩) L.length vc) L' ∧ Below w.heap.size w w9) := by
              have hl' : L'.length = L.length := hperm.length_eq
              have hb := H3.out.2.1.trans (HD.out.bel.mono H3.out.2.1.size)
              have hr3 := HRR.out
              have hw3 := H3.out.2.1.size
              have hgl : g < w9.heap.size := by
                rcases HD.out.row.2 with ⟨hv, _⟩ | ⟨g2, _, _, hv, _, hg2, _⟩
                · cases hv
                · simp at hv
                  obtain ⟨rfl, _⟩ := hv
                  exact Nat.lt_of_lt_of_le (lt_of_block hg2) hsz
              refine ⟨hperm, hsort, ⟨some ⟨g, 0, none⟩, vc, by rw [hl'], by rw [hl']; exact HG.out.2, fun _ => ⟨g, rfl, hgl, hcells⟩⟩, ⟨hos.trans hb.os, htp.trans hb.tape, hou.trans hb.output, Nat.le_trans hb.size hsz, fun b hbl => (hblk b (Nat.lt_of_lt_of_le hbl hb.size) (by have := HG.out.1; omega)).trans (hb.block b hbl)⟩⟩
            clear hperm hsort hcells hsz hblk hos htp hou
            go_wp2
            go_ret2
            exact ⟨.inr ⟨y, HY.out.1, HY.out.2.1, _, L', rfl, ⟨HF.out.2.1, fun k => by rw [HF.out.1.mem_iff]; exact HAL.out k⟩, HF.out.2.2.1⟩, by rw [← HQ.out]; exact HF.out.2.2.2⟩
        · obtain ⟨u, hu, hku, hux⟩ := rel2_left _ _ HR.out _ hkm
          simp only at hku hux
          obtain ⟨fa, fc, rfl, _⟩ := hux.shape
          obtain ⟨k1, k2⟩ := k
          simp only [kv2] at hrun hent
          have hb5 : Below W3.heap.size W3 w5 := by
            rw [hw5]
            refine below_setB ?_ (by rw [HRR.out]; exact Nat.le_refl _) _
            rcases hw5' with rfl | rfl
            · exact hd.bel
            · exact hd.bel.trans (show Below W3.heap.size wr wr.drew from ⟨rfl, rfl, rfl, Nat.le_refl _, fun _ _ => rfl⟩)
          have hrow5 : w5.ownsRow (r + 1) 44 2 (.slice va vn vc) L.length (L.flatMap encW) := by
            refine row_atB hd.row (fun z hz => ?_)
            rw [hw5, setB_other (by omega)]
            rcases hw5' with rfl | rfl <;> rfl
          obtain ⟨fn, hfn⟩ : ∃ fn, fn = u.ps.length := ⟨_, rfl⟩
          rw [← hfn] at hent hrun hux
          have HK : Hid (((k1, k2), Value.slice fa u.ps.length fc) ∈ m ∧ (k1, k2) ∉ D ∧ u ∈ U ∧ u.key = (k1, k2) ∧ PdIn W3 (.slice fa fn fc) u.ps) := ⟨hkm, hkD, hu, hku.symm, hux⟩
          obtain ⟨W6, hW6⟩ : ∃ W6, W6 = w5.alloc (.cells #[.int .i64 k1, .int .i64 k2] 44) := ⟨_, rfl⟩
          obtain ⟨qw, hqw⟩ : ∃ qw, qw = w5.heap.size := ⟨_, rfl⟩
          have b6 : Below w5.heap.size w5 W6 := by rw [hW6]; exact b_one _ _
          have t0 : W6.cell? ⟨qw, 0, none⟩ = some (.int .i64 k1) := by rw [hW6, hqw]; exact World.cell?_alloc_new ..
          have t1 : W6.cell? ⟨qw, 1, none⟩ = some (.int .i64 k2) := by rw [hW6, hqw]; simp
          have H6 : Hid (ItK kv2 W6 gs r m (D ++ [(k1, k2)]) ∧ Below W3.heap.size W3 W6 ∧ W6.ownsRow (r + 1) 44 2 (.slice va vn vc) L.length (L.flatMap encW)) := ⟨hit5.of_blocks (b6.block _ hit5.mp.lt) (b6.block _ hit5.lt), hb5.trans (b6.mono hb5.size), own_carry hrow5 b6⟩
          clear hkm hkD hu hku hux hfn hd hit5 hw5 hw5' hb5 hrow5 b6
          go_upto_region 9 with fail
          rw [← hW6]
          try rw [← hqw]
          clear hW6 hqw hrun hent
          have c0 := cell_grown HC0.out.1 H6.out.2.1
          have s0 := cell_grown HC0.out.2.1 H6.out.2.1
          have s1 := cell_grown HC0.out.2.2.1 H6.out.2.1
          have v0 := cell_grown HC0.out.2.2.2.1 H6.out.2.1
          have v1 := cell_grown HC0.out.2.2.2.2 H6.out.2.1
          have cl := cell_block c0
          have sl := cell_block s0
          have vl := cell_block v0
          have tl := cell_block t0
          have HMT : ∀ W, Below W6.heap.size W6 W → Calls Tryz.prog 27 #[.slice sa S.length sc, .slice fa fn fc, .agg #[.slice ya yn yc, .string yp]] W fun e w' => Says e (MatchOk S u.ps y.vs y.pay.size) ∧ Below W6.heap.size W6 w' ∧ Below W.heap.size W w' := fun W hW => by
            have hb : Below W3.heap.size W3 W := H6.out.2.1.trans (hW.mono H6.out.2.1.size)
            have hmt := bmatch (H3.out.1.below hb) (HSA.out.below hb) HK.out.2.2.1 HY.out.1 (HK.out.2.2.2.2.below hb) (HY.out.2.2.below hb)
            rw [← HYP.out] at hmt ⊢
            refine hmt.mono ?_
            rintro e w' ⟨h1, h2⟩
            exact ⟨h1, hW.trans (h2.mono hW.size), h2⟩
          have HUQ : Hid (∀ u' ∈ U, u'.key = (k1, k2) → u' = u) := fun u' hu' e => by
            have hn : (U.map Bsb.key).Nodup := by
              rw [← keys_rel (key := Bsb.key) (fun p b q => q.1) HR.out]; exact HD.out.it.nodup
            exact key_one hn hu' HK.out.2.2.1 (by rw [e, HK.out.2.2.2.1])
          by_cases hm : MatchOk S u.ps y.vs y.pay.size
          · have HMT2 : Hid (∀ W, Below W6.heap.size W6 W → Calls Tryz.prog 27 #[.slice sa S.length sc, .slice fa fn fc, .agg #[.slice ya yn yc, .string yp]] W fun e w' => e = .returned (.bool true) ∧ Below W6.heap.size W6 w') := fun W hW => (HMT W hW).mono (fun e w' z => ⟨z.1.t hm, z.2.1⟩)
            by_cases hg : ((k1, k2), (pub, seq)) ∈ G
            · have HHS : Hid (∀ W, Below W6.heap.size W6 W → Calls Tryz.prog 28 #[.pointer (some ⟨p, 0, none⟩), .agg #[.int .i64 k1, .int .i64 k2], .agg #[.int .i64 pub, .int .i64 seq]] W fun e w' => e = .returned (.bool true) ∧ Below W6.heap.size W6 w') := fun W hW => by
                have hb : Below W3.heap.size W3 W := H6.out.2.1.trans (hW.mono H6.out.2.1.size)
                refine (bhas_any p ge gs gg S E U G k1 k2 pub seq W (H3.out.1.below hb)).mono ?_
                rintro e w' ⟨h1, h2⟩
                exact ⟨by rw [h1, decide_eq_true hg], hW.trans (h2.mono hW.size)⟩
              have HNP : Hid (¬ ∃ u ∈ U, u.key = (k1, k2) ∧ DueK S G (pub, seq) y u) := by
                rintro ⟨u', h1, h2, h3, h4⟩
                exact h4 (by rw [h2]; exact hg)
              clear HMT hm hg
              go_cut [52] (fun v wx => v = .bool false ∧ Hid (Below W6.heap.size W6 wx))
              case first =>
                go_region_held3 (fun W' => W'.cell? ⟨p, 0, none⟩ = some (.slice sa S.length sc) ∧ W'.cell? ⟨q3, 0, none⟩ = some (.slice ya yn yc) ∧ W'.cell? ⟨q3, 1, none⟩ = some (.string yp) ∧ W'.cell? ⟨qw, 0, none⟩ = some (.int .i64 k1) ∧ W'.cell? ⟨qw, 1, none⟩ = some (.int .i64 k2) ∧ W'.cell? ⟨q, 0, none⟩ = some (.int .i64 pub) ∧ W'.cell? ⟨q, 1, none⟩ = some (.int .i64 seq))
                  (first
                    | go_keep
                    | assumption)
                  (first
                    | (go_at_call 27; refine Calls.mono (HMT2.out _ ?_) ?_; exact ⟨rfl, rfl, rfl, Nat.le_refl _, fun _ _ => rfl⟩; rintro e wM ⟨rfl, hM⟩
                       have BM : Hid (Below W6.heap.size W6 wM) := hM
                       have zm0 := cell_grown c0 hM
                       have zm1 := cell_grown v0 hM
                       have zm2 := cell_grown v1 hM
                       have zm3 := cell_grown t0 hM
                       have zm4 := cell_grown t1 hM
                       have zm5 := cell_grown s0 hM
                       have zm6 := cell_grown s1 hM
                       have zml := cell_block zm0
                       have zmk := cell_block zm1
                       have zmj := cell_block zm3
                       have zmi := cell_block zm5
                       clear hM)
                    | (go_at_call 28; refine Calls.mono (HHS.out _ ?_) ?_; exact BM.out; rintro e wH ⟨rfl, hH⟩
                       have BH : Hid (Below W6.heap.size W6 wH) := hH
                       have zh0 := cell_grown c0 hH
                       have zh1 := cell_grown v0 hH
                       have zh2 := cell_grown v1 hH
                       have zh3 := cell_grown t0 hH
                       have zh4 := cell_grown t1 hH
                       have zh5 := cell_grown s0 hH
                       have zh6 := cell_grown s1 hH
                       have zhl := cell_block zh0
                       have zhk := cell_block zh1
                       have zhj := cell_block zh3
                       have zhi := cell_block zh5
                       clear hH))
                all_goals
                  go_wp2
                  go_meet
                  exact ⟨rfl, BH⟩
              case rest =>
                rename World => W7
                obtain ⟨rfl, HB7⟩ := hcut
                clear c0 v0 v1 t0 t1 s0 s1 cl vl tl sl HMT2 HHS
                have HS7 : Hid (DueSt W3 W7 gs r m (fun k => ∃ u ∈ U, u.key = k ∧ DueK S G (pub, seq) y u) (D ++ [(k1, k2)]) L (.slice va vn vc)) := HD.out.skip HK.out.1 HK.out.2.1 (H6.out.1.of_blocks (HB7.out.block _ (H6.out.1.mp.lt)) (HB7.out.block _ (H6.out.1.lt))) (H6.out.2.1.trans (HB7.out.mono H6.out.2.1.size)) (own_carry H6.out.2.2 HB7.out) HNP.out
                go_wp2
                go_roundg (m.length - (D.length + 1))
                case measure =>
                  have z1 := HKX.out.1
                  have z2 := HD.out.lt HK.out.1 HK.out.2.1
                  omega
                case rel => exact ⟨va, vn, vc, rfl, ⟨D ++ [(k1, k2)], L, by simp, HKX.out.2, HS7.out⟩⟩
            · have HHS : Hid (∀ W, Below W6.heap.size W6 W → Calls Tryz.prog 28 #[.pointer (some ⟨p, 0, none⟩), .agg #[.int .i64 k1, .int .i64 k2], .agg #[.int .i64 pub, .int .i64 seq]] W fun e w' => e = .returned (.bool false) ∧ Below W6.heap.size W6 w') := fun W hW => by
                have hb : Below W3.heap.size W3 W := H6.out.2.1.trans (hW.mono H6.out.2.1.size)
                refine (bhas_any p ge gs gg S E U G k1 k2 pub seq W (H3.out.1.below hb)).mono ?_
                rintro e w' ⟨h1, h2⟩
                exact ⟨by rw [h1, decide_eq_false hg], hW.trans (h2.mono hW.size)⟩
              have HNP : Hid (∃ u ∈ U, u.key = (k1, k2) ∧ DueK S G (pub, seq) y u) := ⟨u, HK.out.2.2.1, HK.out.2.2.2.1, hm, by rw [HK.out.2.2.2.1]; exact hg⟩
              clear HMT hm hg
              go_cut [52] (fun v wx => v = .bool true ∧ Hid (Below W6.heap.size W6 wx))
              case first =>
                go_region_held3 (fun W' => W'.cell? ⟨p, 0, none⟩ = some (.slice sa S.length sc) ∧ W'.cell? ⟨q3, 0, none⟩ = some (.slice ya yn yc) ∧ W'.cell? ⟨q3, 1, none⟩ = some (.string yp) ∧ W'.cell? ⟨qw, 0, none⟩ = some (.int .i64 k1) ∧ W'.cell? ⟨qw, 1, none⟩ = some (.int .i64 k2) ∧ W'.cell? ⟨q, 0, none⟩ = some (.int .i64 pub) ∧ W'.cell? ⟨q, 1, none⟩ = some (.int .i64 seq))
                  (first
                    | go_keep
                    | assumption)
                  (first
                    | (go_at_call 27; refine Calls.mono (HMT2.out _ ?_) ?_; exact ⟨rfl, rfl, rfl, Nat.le_refl _, fun _ _ => rfl⟩; rintro e wM ⟨rfl, hM⟩
                       have BM : Hid (Below W6.heap.size W6 wM) := hM
                       have zm0 := cell_grown c0 hM
                       have zm1 := cell_grown v0 hM
                       have zm2 := cell_grown v1 hM
                       have zm3 := cell_grown t0 hM
                       have zm4 := cell_grown t1 hM
                       have zm5 := cell_grown s0 hM
                       have zm6 := cell_grown s1 hM
                       have zml := cell_block zm0
                       have zmk := cell_block zm1
                       have zmj := cell_block zm3
                       have zmi := cell_block zm5
                       clear hM)
                    | (go_at_call 28; refine Calls.mono (HHS.out _ ?_) ?_; exact BM.out; rintro e wH ⟨rfl, hH⟩
                       have BH : Hid (Below W6.heap.size W6 wH) := hH
                       have zh0 := cell_grown c0 hH
                       have zh1 := cell_grown v0 hH
                       have zh2 := cell_grown v1 hH
                       have zh3 := cell_grown t0 hH
                       have zh4 := cell_grown t1 hH
                       have zh5 := cell_grown s0 hH
                       have zh6 := cell_grown s1 hH
                       have zhl := cell_block zh0
                       have zhk := cell_block zh1
                       have zhj := cell_block zh3
                       have zhi := cell_block zh5
                       clear hH))
                all_goals
                  go_wp2
                  go_meet
                  exact ⟨rfl, BH⟩
              case rest =>
                rename World => W7
                obtain ⟨rfl, HB7⟩ := hcut
                replace t0 := cell_grown t0 HB7.out
                replace t1 := cell_grown t1 HB7.out
                replace tl := cell_block t0
                clear c0 v0 v1 s0 s1 cl vl sl HMT2 HHS
                have H7 : Hid (ItK kv2 W7 gs r m (D ++ [(k1, k2)]) ∧ Below W3.heap.size W3 W7 ∧ W7.ownsRow (r + 1) 44 2 (.slice va vn vc) L.length (L.flatMap encW) ∧ r + 1 ≤ W7.heap.size) := ⟨H6.out.1.of_blocks (HB7.out.block _ (H6.out.1.mp.lt)) (HB7.out.block _ (H6.out.1.lt)), H6.out.2.1.trans (HB7.out.mono H6.out.2.1.size), own_carry H6.out.2.2 HB7.out, Nat.le_trans (Nat.succ_le_of_lt H6.out.1.lt) HB7.out.size⟩
                have hLn := HKX.out.2
                have hll : L.length ≤ 1000 := by have := HD.out.le; have := HML.out; have := H1.out.2.2; omega
                have HA : Hid ((W7.alloc (.cells #[.int .i64 k1, .int .i64 k2] 44)).ownsRow (r + 1) 44 2 (.slice va vn vc) vn (L.flatMap encW)) := by
                  have q9 := own_carry H7.out.2.2.1 (b_one W7 (.cells #[.int .i64 k1, .int .i64 k2] 44))
                  rw [hLn] at q9
                  exact q9
                have hvn : vn ≤ 1000 := by omega
                clear hLn hll
                go_wp2_with (at_builtin; refine wpList_own_append2 _ rfl _ _ 48 48 rfl (r + 1) 44 i0 _ 16 Tryz.underlying48 hif hz0 hz1 hz2 rfl _ _ _ rfl HA.out _ 1 (encW (k1, k2)) rfl (src_who W7 (k1, k2)) ?c3 ?c4 ?c5 ?_)
                case c3 => unfold maxLen; omega
                case c4 => omega
                case c5 => have := H7.out.2.2.2; simp; omega
                intro v' w8 ha
                obtain ⟨a', c', rfl⟩ := ha.shape
                have H8 : Hid (DueSt W3 w8 gs r m (fun k => ∃ u ∈ U, u.key = k ∧ DueK S G (pub, seq) y u) (D ++ [(k1, k2)]) (L ++ [(k1, k2)]) (.slice a' (vn + 1) c')) := by
                  have hgr := ha.grown
                  have hkeep : ∀ z, z ≤ r → w8.heap[z]? = W7.heap[z]? := fun z hz => by
                    have h1 : z < (W7.alloc (.cells #[.int .i64 k1, .int .i64 k2] 44)).heap.size := by have := H7.out.2.2.2; simp; omega
                    rw [hgr.block z h1 (fun e => ?_), Below.heap_alloc _ _ _ (by have := H7.out.2.2.2; omega)]
                    have := (World.ownsRow.lt HA.out z e.symm).1
                    omega
                  have hit8 : ItK kv2 w8 gs r m (D ++ [(k1, k2)]) := H7.out.1.of_blocks (hkeep _ (by have := H3.out.1.lts; have := HRR.out; omega)) (hkeep _ (Nat.le_refl _))
                  have hb8 : Below W3.heap.size W3 w8 := by
                    have hb7 := H7.out.2.1
                    have hr3 := HRR.out
                    refine ⟨hgr.os.trans hb7.os, hgr.tape.trans hb7.tape, hgr.output.trans hb7.output, Nat.le_trans hb7.size (Nat.le_trans (by simp) hgr.size), fun z hz => (hkeep z (by omega)).trans (hb7.block z hz)⟩
                  refine HD.out.take HK.out.1 HK.out.2.1 hit8 hb8 ?_ HNP.out
                  have hr8 := ha.row
                  rw [flat_snocW, List.length_append, HKX.out.2]
                  exact hr8
                clear ha HA
                go_wp2
                go_roundg (m.length - (D.length + 1))
                case measure =>
                  have z1 := HKX.out.1
                  have z2 := HD.out.lt HK.out.1 HK.out.2.1
                  omega
                case rel => exact ⟨a', vn + 1, c', by simp, ⟨D ++ [(k1, k2)], L ++ [(k1, k2)], by simp, by simp [HKX.out.2], H8.out⟩⟩
          · have HMT2 : Hid (∀ W, Below W6.heap.size W6 W → Calls Tryz.prog 27 #[.slice sa S.length sc, .slice fa fn fc, .agg #[.slice ya yn yc, .string yp]] W fun e w' => e = .returned (.bool false) ∧ Below W.heap.size W w') := fun W hW => (HMT W hW).mono (fun e w' z => ⟨z.1.f hm, z.2.2⟩)
            have HHS : Hid True := trivial
            have HNP : Hid (¬ ∃ u ∈ U, u.key = (k1, k2) ∧ DueK S G (pub, seq) y u) := by
              rintro ⟨u', h1, h2, h3, h4⟩
              rw [HUQ.out u' h1 h2] at h3
              exact hm h3
            clear HMT hm
            go_cut [52] (fun v wx => v = .bool false ∧ Hid (Below W6.heap.size W6 wx))
            case first =>
              obtain ⟨ι, F, _, hF0, hFb, hFc⟩ := grown_fam W6
              have f0 : ∀ i, (F i).cell? ⟨p, 0, none⟩ = _ := fun i => cell_grown c0 (hFb i)
              have f1 : ∀ i, (F i).cell? ⟨q3, 0, none⟩ = _ := fun i => cell_grown v0 (hFb i)
              have f2 : ∀ i, (F i).cell? ⟨q3, 1, none⟩ = _ := fun i => cell_grown v1 (hFb i)
              have HF : Hid ((∃ i, { W6 with drawn := W6.drawn + 1 } = F i) ∧ (∀ i, Below W6.heap.size W6 (F i)) ∧ (∀ i W, Below W6.heap.size (F i) W → ∃ j, W = F j)) := ⟨hF0, hFb, hFc⟩
              clear hF0 hFb hFc
              refine wp_region_fam F HF.out.1 (by kernel_rfl) (by kernel_rfl) ?_
              repeat (go_big_quiet_step ((go_at_call 27; refine Calls.mono (HMT2.out _ (HF.out.2.1 _)) ?_; rintro e' w' ⟨hs, hb⟩; exact ⟨hs, HF.out.2.2 _ _ (hb.mono (HF.out.2.1 _).size)⟩)))
              refine wpQuiet_nil ?_
              rintro _ ⟨i, rfl⟩
              have BM : Hid (Below W6.heap.size W6 (F i)) := HF.out.2.1 i
              clear HF f0 f1 f2
              generalize F i = Wn at BM ⊢
              go_wp2
              go_meet
              exact ⟨rfl, BM⟩
            case rest =>
              rename World => W7
              obtain ⟨rfl, HB7⟩ := hcut
              clear c0 v0 v1 t0 t1 s0 s1 cl vl tl sl HMT2 HHS
              have HS7 : Hid (DueSt W3 W7 gs r m (fun k => ∃ u ∈ U, u.key = k ∧ DueK S G (pub, seq) y u) (D ++ [(k1, k2)]) L (.slice va vn vc)) := HD.out.skip HK.out.1 HK.out.2.1 (H6.out.1.of_blocks (HB7.out.block _ (H6.out.1.mp.lt)) (HB7.out.block _ (H6.out.1.lt))) (H6.out.2.1.trans (HB7.out.mono H6.out.2.1.size)) (own_carry H6.out.2.2 HB7.out) HNP.out
              go_wp2
              go_roundg (m.length - (D.length + 1))
              case measure =>
                have z1 := HKX.out.1
                have z2 := HD.out.lt HK.out.1 HK.out.2.1
                omega
              case rel => exact ⟨va, vn, vc, rfl, ⟨D ++ [(k1, k2)], L, by simp, HKX.out.2, HS7.out⟩⟩
end Go.Proofs.YtkncpojijfeahaaGreatDoor
