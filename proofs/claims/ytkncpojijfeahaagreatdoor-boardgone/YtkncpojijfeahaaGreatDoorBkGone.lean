/- Gone: all subscriptions of a node go. -/
import Derived.Test.YtkncpojijfeahaaGreatDoorBkDue
namespace Go.Proofs.YtkncpojijfeahaaGreatDoor
open Go.ChangeShapes Go.WideShapes Go.ChangeAt Go.RowKit Go.Deep
open Go.ChangeMaps (setBlock)
set_option linter.unusedVariables false

theorem iter_kc {w : World} {r : Nat} {a : Option Nat} {b : Nat} {s : Array Nat} {c : Nat} (hr : w.heap[r]? = some (.mapIter a b s c)) (o : Obj) : Kc w (setBlock w r o) :=
  ⟨by rw [setB_size]; exact Nat.le_refl _, fun b x v hc => setB_other (fun e => by rw [e] at hc; simp [World.cell?, hr] at hc) o⟩
theorem BdAt.iter {w : World} {p ge gs gg : Nat} {S : List At} {E : List Bev} {U : List Bsb} {G : List Bgf} (h : BdAt w p ge gs gg S E U G) {r : Nat} {a : Option Nat} {b : Nat} {s : Array Nat} {c : Nat} (hr : w.heap[r]? = some (.mapIter a b s c)) (o : Obj) : BdAt (setBlock w r o) p ge gs gg S E U G := by
  have kc := iter_kc hr o
  obtain ⟨sv, b1, b2⟩ := h.box
  obtain ⟨m, hm, hrm⟩ := h.ev
  obtain ⟨m', hm', hrm'⟩ := h.sb
  have nm : ∀ {κ : Type} {kv : κ → Value} {g : Nat} {m : List (κ × Value)}, MpK kv w g m → g ≠ r := fun hm e => by
    obtain ⟨_, es, c, q, _⟩ := hm
    rw [e, hr] at q; cases q
  have np : p ≠ r := fun e => by rw [e, hr] at b1; cases b1
  exact ⟨⟨sv, (setB_other np o).trans b1, b2.kc kc⟩, h.n1, h.n2, h.n3, ⟨m, hm.of_block (setB_other (nm hm) o), rel2_mono (EvR.kc kc) _ _ hrm⟩, ⟨m', hm'.of_block (setB_other (nm hm') o), rel2_mono (SbR.kc kc) _ _ hrm'⟩, h.gf.of_block (setB_other (nm h.gf) o), h.sok, h.eok, h.uok⟩
/-- On the way: the iterator has been at Di; of D those of the node are gone. -/
structure GnSt (W wr : World) (p ge gs gg r : Nat) (S : List At) (E : List Bev) (U : List Bsb) (G : List Bgf) (n : Int) (Di D : List (Int × Int)) (V : List Bsb) : Prop where
  it : ∃ m, ItK kv2 wr gs r m Di ∧ Rel2 (SbR wr) m V
  bd : BdAt wr p ge gs gg S E V G
  kb : Kb W wr ge gs gg
  lo : W.heap.size ≤ r
  un : V = U.filter (fun u => !(decide (u.key.1 = n) && decide (u.key ∈ D)))
section
variable {W wr : World} {p ge gs gg r : Nat} {S : List At} {E : List Bev} {U : List Bsb} {G : List Bgf} {n : Int} {Di D : List (Int × Int)} {V : List Bsb}
theorem GnSt.below (h : GnSt W wr p ge gs gg r S E U G n Di D V) {w' : World} (hb : Below wr.heap.size wr w') : GnSt W w' p ge gs gg r S E U G n Di D V := by
  obtain ⟨m, h1, h2⟩ := h.it
  exact ⟨⟨m, h1.of_blocks (hb.block _ h1.mp.lt) (hb.block _ h1.lt), rel2_mono (SbR.kc (Kc.ofBelow hb)) _ _ h2⟩, h.bd.below hb, h.kb.trans (Kb.ofBelow hb), h.lo, h.un⟩
theorem GnSt.next (h : GnSt W wr p ge gs gg r S E U G n D D V) :
    ((∀ u ∈ U, u.key.1 = n → u.key ∈ D) ∧ ∀ ty, (Instr.next (.pointer (some ⟨r, 0, none⟩)) false ty).run Tryz.prog wr = .ok (.tuple #[.bool false]) wr) ∨
    ∃ k1 k2 x w5, (∀ ty, (Instr.next (.pointer (some ⟨r, 0, none⟩)) false ty).run Tryz.prog wr = .ok (.tuple #[.bool true, .agg #[.int .i64 k1, .int .i64 k2], x]) w5) ∧
      (Instr.entry (.pointer (some ⟨r, 0, none⟩))).run Tryz.prog w5 = .ok (.tuple #[.agg #[.int .i64 k1, .int .i64 k2], x]) w5 ∧ GnSt W w5 p ge gs gg r S E U G n (D ++ [(k1, k2)]) D V ∧ (∃ u ∈ U, u.key = (k1, k2)) ∧ (k1, k2) ∉ D := by
  obtain ⟨m, hit, hr⟩ := h.it
  rcases hit.next (P := Tryz.prog) with ⟨hall, hrun⟩ | ⟨k, x, w5, hkm, hkD, hrun, hit5, hent, w5', o5, hw5', hw5⟩
  · refine .inl ⟨fun u hu hun => ?_, hrun⟩
    apply Classical.byContradiction
    intro hD
    have hV : u ∈ V := by rw [h.un]; exact List.mem_filter.2 ⟨hu, by simp [hD]⟩
    obtain ⟨pp, hpp, hpr⟩ := rel2_right _ _ hr u hV
    have := hall pp hpp
    rw [hpr.1] at this
    exact hD this
  · obtain ⟨k1, k2⟩ := k
    obtain ⟨u, hu, hku, _⟩ := rel2_left _ _ hr _ hkm
    have hd : Below wr.heap.size wr w5' := by
      rcases hw5' with rfl | rfl
      · exact Below.refl _ _
      · exact ⟨rfl, rfl, rfl, Nat.le_refl _, fun _ _ => rfl⟩
    have hit' := hit.of_blocks (w' := w5') (hd.block _ hit.mp.lt) (hd.block _ hit.lt)
    obtain ⟨_, _, _, _, since, seen, c0, _, hri, _⟩ := hit'
    refine .inr ⟨k1, k2, x, w5, hrun, hent, ⟨⟨m, hit5, ?_⟩, ?_, ?_, h.lo, h.un⟩, ⟨u, ?_, hku.symm⟩, hkD⟩
    · rw [hw5]
      exact rel2_mono (SbR.kc (iter_kc hri o5)) _ _ (rel2_mono (SbR.kc (Kc.ofBelow hd)) _ _ hr)
    · rw [hw5]
      exact (h.bd.below hd).iter hri o5
    · have k := h.kb.trans (Kb.ofBelow (ge := ge) (gs := gs) (gg := gg) hd)
      rw [hw5]
      have hl := h.lo
      exact ⟨k.os, k.tape, k.output, by rw [setB_size]; exact k.size, fun b hb n1 n2 n3 => (setB_other (by omega) o5).trans (k.block b hb n1 n2 n3)⟩
    · rw [h.un] at hu
      exact (List.mem_filter.1 hu).1
theorem GnSt.skip {k : Int × Int} (h : GnSt W wr p ge gs gg r S E U G n (D ++ [k]) D V) (hk : k.1 ≠ n) : GnSt W wr p ge gs gg r S E U G n (D ++ [k]) (D ++ [k]) V := by
  refine ⟨h.it, h.bd, h.kb, h.lo, ?_⟩
  rw [h.un]
  refine List.filter_congr (fun u _ => ?_)
  by_cases e : u.key.1 = n
  · have : ¬ u.key = k := fun q => hk (by rw [← q]; exact e)
    simp [e, this]
  · simp [e]
theorem GnSt.take {k : Int × Int} (h : GnSt W wr p ge gs gg r S E U G n (D ++ [k]) D V) (hk : k.1 = n) (ty ty2 : TypeId) :
    ∃ w7 V', (Builtin.delete_ #[82, ty2] ty #[.map (some gs), .agg #[.int .i64 k.1, .int .i64 k.2]]).run Tryz.prog wr = .ok (.tuple #[]) w7 ∧ GnSt W w7 p ge gs gg r S E U G n (D ++ [k]) (D ++ [k]) V' := by
  obtain ⟨w7, hrun, hbd, hkb⟩ := h.bd.del_sb k ty ty2
  obtain ⟨m, hit, hr⟩ := h.it
  obtain ⟨o, hrun2, hit2⟩ := hit.del (P := Tryz.prog) key_who Tryz.underlying82 (k := k) (by simp) ty ty2
  have hw : w7 = setBlock wr gs o := by
    have e := hrun.symm.trans hrun2
    simpa using e
  subst hw
  have kc : Kc wr (setBlock wr gs o) := Kc.setB hit.mp o
  refine ⟨_, _, hrun, ⟨⟨_, hit2, rel2_filter (q := fun u => decide (u.key ≠ k)) (fun p b q => by rw [q.1]) _ _ (rel2_mono (SbR.kc kc) _ _ hr)⟩, hbd, h.kb.trans hkb, h.lo, ?_⟩⟩
  rw [h.un, List.filter_filter]
  refine List.filter_congr (fun u _ => ?_)
  by_cases e : u.key = k
  · simp [e, hk]
  · by_cases e2 : u.key.1 = n
    · simp [e, e2]
    · simp [e, e2]
theorem left_lt {k : Int × Int} (hu : ∃ u ∈ U, u.key = k) (hk : k ∉ D) : (U.filter (fun u => !decide (u.key ∈ D ++ [k]))).length < (U.filter (fun u => !decide (u.key ∈ D))).length := by
  have e : U.filter (fun u => !decide (u.key ∈ D ++ [k])) = (U.filter (fun u => !decide (u.key ∈ D))).filter (fun u => !decide (u.key = k)) := by
    rw [List.filter_filter]
    refine List.filter_congr (fun u _ => ?_)
    by_cases e1 : u.key ∈ D
    · simp [e1]
    · by_cases e2 : u.key = k
      · simp [e2]
      · simp [e1, e2]
  rw [e]
  obtain ⟨u, hu, hk2⟩ := hu
  exact List.length_filter_lt_length_iff_exists.2 ⟨u, List.mem_filter.2 ⟨hu, by rw [hk2]; simpa using hk⟩, by simp [hk2]⟩
theorem GnSt.done (h : GnSt W wr p ge gs gg r S E U G n D D V) (hall : ∀ u ∈ U, u.key.1 = n → u.key ∈ D) : V = U.filter (fun u => decide (u.key.1 ≠ n)) := by
  rw [h.un]
  refine List.filter_congr (fun u hu => ?_)
  by_cases e : u.key.1 = n
  · simp [e, hall u hu e]
  · simp [e]
end

set_option maxRecDepth 100000 in
set_option maxHeartbeats 4000000 in
theorem bgone_any (p ge gs gg : Nat) (S : List At) (E : List Bev) (U : List Bsb) (G : List Bgf) (n : Int) (w : World) (h : BdAt w p ge gs gg S E U G) (hU : U.length ≤ 1000) :
    Calls Tryz.prog 17 #[.pointer (some ⟨p, 0, none⟩), .int .i64 n] w fun e w' => e = .returned (.int .i64 ((U.length : Int) - ((U.filter (fun u => decide (u.key.1 ≠ n))).length : Int))) ∧ BdAt w' p ge gs gg S E (U.filter (fun u => decide (u.key.1 ≠ n))) G ∧ Kb w w' ge gs gg := by
  obtain ⟨sa, sc, _, c0, c1, c2, c3, cl⟩ := h.cells
  have hlen := fun ty => h.len_sb ty
  obtain ⟨m, hm, hrm⟩ := h.sb
  obtain ⟨o, hrun, hit⟩ := hm.start (P := Tryz.prog) Tryz.underlying82
  obtain ⟨r, hr⟩ : ∃ r, r = w.heap.size := ⟨_, rfl⟩
  obtain ⟨W2, hW2⟩ : ∃ W2, W2 = w.alloc o := ⟨_, rfl⟩
  have b2 : Below w.heap.size w W2 := by rw [hW2]; exact b_one _ _
  rw [← hW2, ← hr] at hrun hit
  have H2 : Hid (GnSt w W2 p ge gs gg r S E U G n [] [] U) := ⟨⟨m, hit, rel2_mono (SbR.kc (Kc.ofBelow b2)) _ _ hrm⟩, h.below b2, Kb.ofBelow b2, by rw [hr]; exact Nat.le_refl _, (List.filter_eq_self.2 (fun u _ => by simp)).symm⟩
  have HU : Hid (U.length ≤ 1000) := hU
  clear h hm hrm hit b2 hW2 hr hU
  go_enter Tryz.func17, Tryz.ntmps17
  go_wp2
  clear hrun hlen c0 c1 c2 c3 cl
  go_loopg [] U.length (fun kx wr => Hid (∃ D V, kx = (U.filter (fun u => !decide (u.key ∈ D))).length ∧ GnSt w wr p ge gs gg r S E U G n D D V))
  case atStart => exact ⟨[], U, by rw [List.filter_eq_self.2 (fun u _ => by simp)], H2.out⟩
  case round =>
    obtain ⟨D, V, hkx, hd⟩ := hrel.out
    have HKX : Hid (_ = (U.filter (fun u => !decide (u.key ∈ D))).length) := hkx
    have HD : Hid (GnSt w wr p ge gs gg r S E U G n D D V) := hd
    clear hrel hkx hd
    rcases HD.out.next with ⟨hall, hrun⟩ | ⟨k1, k2, x, w5, hrun, hent, hg, hu, hkD⟩
    · have HV : Hid (V = U.filter (fun u => decide (u.key.1 ≠ n))) := HD.out.done hall
      clear hall
      obtain ⟨sa2, sc2, _, c0, c1, c2, c3, cl⟩ := HD.out.bd.cells
      have hlen := fun ty => HD.out.bd.len_sb ty
      have hvl : V.length ≤ U.length := by rw [HV.out]; exact List.length_filter_le _ _
      have hul := HU.out
      have hw : IntKind.i64.wrap ((U.length : Int) - (V.length : Int)) = (U.length : Int) - (V.length : Int) := IntWalk.i64_in _ ⟨by omega, by omega⟩
      go_wp2
      go_ret
      refine ⟨?_, ?_, HD.out.kb⟩
      · exact congrArg (fun k : Nat => Ending.returned (.int .i64 ((U.length : Int) - (k : Int)))) (congrArg List.length HV.out)
      · rw [← HV.out]; exact HD.out.bd
    · obtain ⟨W6, hW6⟩ : ∃ W6, W6 = w5.alloc (.cells #[.int .i64 k1, .int .i64 k2] 44) := ⟨_, rfl⟩
      obtain ⟨qw, hqw⟩ : ∃ q, q = w5.heap.size := ⟨_, rfl⟩
      have b6 : Below w5.heap.size w5 W6 := by rw [hW6]; exact b_one _ _
      have t0 : W6.cell? ⟨qw, 0, none⟩ = some (.int .i64 k1) := by rw [hW6, hqw]; exact World.cell?_alloc_new ..
      have t1 : W6.cell? ⟨qw, 1, none⟩ = some (.int .i64 k2) := by rw [hW6, hqw]; simp
      have tl := cell_block t0
      have H6 : Hid (GnSt w W6 p ge gs gg r S E U G n (D ++ [(k1, k2)]) D V) := hg.below b6
      have HUK : Hid ((∃ u ∈ U, u.key = (k1, k2)) ∧ (k1, k2) ∉ D) := ⟨hu, hkD⟩
      clear hg b6 hu hkD
      go_upto_region 5 with fail
      rw [← hW6]
      try rw [← hqw]
      clear hW6 hqw hrun hent
      by_cases e : k1 = n
      · have e1 : (k1 == n) = true := by simpa using e
        obtain ⟨sa2, sc2, _, c0, c1, c2, c3, cl⟩ := H6.out.bd.cells
        obtain ⟨w7, V', hdel, h7⟩ := (H6.out.below (b_drew W6)).take e 0 44
        simp only at hdel
        have H7 : Hid (GnSt w w7 p ge gs gg r S E U G n (D ++ [(k1, k2)]) (D ++ [(k1, k2)]) V') := h7
        clear h7 e
        go_wp2
        go_region
        go_wp2
        go_roundg ((U.filter (fun u => !decide (u.key ∈ D ++ [(k1, k2)]))).length)
        case measure => rw [HKX.out]; exact left_lt HUK.out.1 HUK.out.2
        case rel => exact ⟨D ++ [(k1, k2)], V', rfl, H7.out⟩
      · have e1 : (k1 == n) = false := by simpa using e
        have H7 : Hid (GnSt w W6 p ge gs gg r S E U G n (D ++ [(k1, k2)]) (D ++ [(k1, k2)]) V) := H6.out.skip e
        clear e
        go_wp2
        go_roundg ((U.filter (fun u => !decide (u.key ∈ D ++ [(k1, k2)]))).length)
        case measure => rw [HKX.out]; exact left_lt HUK.out.1 HUK.out.2
        case rel => exact ⟨D ++ [(k1, k2)], V, rfl, H7.out⟩
end Go.Proofs.YtkncpojijfeahaaGreatDoor
