/- taken, needed, ahead. -/
import Derived.Test.YtgiiadjocfnhlabGreatDoorChLive
import Derived.Deep.CutBlock
import Derived.Deep.DeepCutAuto
namespace Go.Proofs.YtgiiadjocfnhlabGreatDoor
open Go.ChangeShapes Go.WideShapes Go.ChangeAt Go.RowKit Go.Deep
set_option linter.unusedVariables false

theorem enter_taken (args : Array Value) (w : World) : (callFunc 92 args).run Tryz.prog w = .ok (.enter 92 args) w := by kernel_rfl
theorem enter_needed (args : Array Value) (w : World) : (callFunc 93 args).run Tryz.prog w = .ok (.enter 93 args) w := by kernel_rfl

def Rg.taken (R : Rg) (id : Int) : Bool := anyF (fun n => R.idOf n == id) R.live
/-- Is a member the only one behind another one? -/
def Rg.lone (R : Rg) (n m : Int) : Bool := m != n && headF (fun x => x != -1 && (x != n && R.lives x)) (R.know m).succ == -1
def Rg.needed (R : Rg) (n : Int) : Bool := anyF (fun m => R.lone n m) R.live

set_option maxHeartbeats 1000000 in
theorem taken1_r (r gp gk b c : Nat) (R : Rg) (id n : Int) (w : World) (h : RingAt w r gp gk R) (hb : w.cell? ⟨b, 0, none⟩ = some (.pointer (some ⟨r, 0, none⟩))) (hc : w.cell? ⟨c, 0, none⟩ = some (.int .u64 id)) :
    Calls Tryz.prog 92 (#[.int .i64 n] ++ #[.pointer (some ⟨b, 0, none⟩), .pointer (some ⟨c, 0, none⟩)]) w fun e w' => e = .returned (.bool (R.idOf n == id)) ∧ Below w.heap.size w w' := by
  have H : Hid (RingAt w r gp gk R) := h
  clear h
  simp only [List.append_toArray, List.cons_append, List.nil_append]
  go_enter Tryz.func92, Tryz.ntmps92
  go_wp2_with (go_quiet ((go_at_call 40; exact Calls.quiet_of_same (id_r _ _ _ _ _ _ (H.out.below ⟨rfl, rfl, rfl, Nat.le_refl _, fun _ _ => rfl⟩)))))
  go_ret
  exact ⟨rfl, ⟨rfl, rfl, rfl, Nat.le_refl _, fun _ _ => rfl⟩⟩

set_option maxHeartbeats 1000000 in
theorem taken_r (r gp gk : Nat) (R : Rg) (id : Int) (w : World) (h : RingAt w r gp gk R) :
    Calls Tryz.prog 63 #[.pointer (some ⟨r, 0, none⟩), .int .u64 id] w fun e w' => e = .returned (.bool (R.taken id)) ∧ Below w.heap.size w w' := by
  obtain ⟨W1, hW1⟩ : ∃ W1, W1 = (w.alloc (.cells #[.pointer (some ⟨r, 0, none⟩)] 27)).alloc (.cells #[.int .u64 id] 26) := ⟨_, rfl⟩
  have b1 : Hid (Below w.heap.size w W1) := by rw [hW1]; exact (below_one _ _).trans ((below_one _ _).mono (by simp))
  have k0 : W1.cell? ⟨w.heap.size, 0, none⟩ = some (.pointer (some ⟨r, 0, none⟩)) := by rw [hW1]; simp
  have k1 : W1.cell? ⟨w.heap.size + 1, 0, none⟩ = some (.int .u64 id) := by rw [hW1]; simp
  have H1 : Hid (RingAt W1 r gp gk R ∧ W1.cell? ⟨w.heap.size, 0, none⟩ = some (.pointer (some ⟨r, 0, none⟩)) ∧ W1.cell? ⟨w.heap.size + 1, 0, none⟩ = some (.int .u64 id)) := ⟨h.below b1.out, k0, k1⟩
  clear h k0 k1
  go_enter Tryz.func63, Tryz.ntmps63
  go_wp2_with fail
  rw [← hW1]
  clear hW1
  refine (live_r r gp gk R _ H1.out.1).mono ?_
  rintro e w2 ⟨a, c, rfl, hL, _, hb⟩
  have H2 : Hid (Below W1.heap.size W1 w2 ∧ InIn w2 a R.live.length R.live) := ⟨hb, hL⟩
  clear hb hL
  go_wp2_with fail
  refine (contains_f 92 #[.pointer (some ⟨w.heap.size, 0, none⟩), .pointer (some ⟨w.heap.size + 1, 0, none⟩)] a _ c R.live (fun n => R.idOf n == id) w2 enter_taken H2.out.2 (fun W n _ hW => ?_)).mono ?_
  · have hb2 : Below W1.heap.size W1 W := H2.out.1.trans (hW.mono H2.out.1.size)
    exact taken1_r r gp gk _ _ R id n W (H1.out.1.below hb2) (cell_grown H1.out.2.1 hb2) (cell_grown H1.out.2.2 hb2)
  rintro e w3 ⟨rfl, hb⟩
  go_wp2
  go_ret
  exact ⟨rfl, b1.out.trans ((H2.out.1.trans (hb.mono H2.out.1.size)).mono b1.out.size)⟩

/-- A look-up of a member, in every world that has grown out of this one. -/
theorem RingAt.askedAll {w : World} {r gp gk : Nat} {R : Rg} (h : RingAt w r gp gk R) (n : Int) :
    ∃ a len cap, PeIn w (R.know n).id (R.know n).pred a len cap (R.know n).succ ∧ ∀ w', Below w.heap.size w w' →
      (Instr.lookup 113 (.map (some gk)) (.int .i64 n) false).run Tryz.prog w' = .ok (.agg #[.int .u64 (R.know n).id, .int .i64 (R.know n).pred, .slice a len cap]) w' := by
  obtain ⟨mk, hk, hk'⟩ := h.known
  have q := hk' n
  cases hn : R.kn n with
  | none =>
    rw [hn] at q
    cases hl : look mk n with
    | some v => rw [hl] at q; exact q.elim
    | none =>
      refine ⟨none, 0, 0, ?_, fun w' hb => ?_⟩ <;> simp only [Rg.know, hn, Option.getD_none, pe0]
      · exact pe0_in w
      · exact (run_look_none (hk.of_block (hb.block gk hk.lt)) Tryz.underlying113 Tryz.underlying3 (zero_pe w') hl).2
  | some p =>
    rw [hn] at q
    cases hl : look mk n with
    | none => rw [hl] at q; exact q.elim
    | some v =>
      rw [hl] at q
      obtain ⟨a, len, cap, rfl, hp, _⟩ := q
      refine ⟨a, len, cap, ?_, fun w' hb => ?_⟩ <;> simp only [Rg.know, hn, Option.getD_some]
      · exact hp
      · exact (run_look_some (hk.of_block (hb.block gk hk.lt)) Tryz.underlying113 Tryz.underlying3 hl).2

set_option maxHeartbeats 1000000 in
theorem needed1_r (r gp gk b c d : Nat) (R : Rg) (n m : Int) (w : World) (h : RingAt w r gp gk R) (hb : w.cell? ⟨b, 0, none⟩ = some (.int .i64 n)) (hc : w.cell? ⟨c, 0, none⟩ = some (.pointer (some ⟨r, 0, none⟩))) (hd0 : w.cell? ⟨d, 0, none⟩ = some (.pointer (some ⟨r, 0, none⟩))) (hd1 : w.cell? ⟨d, 1, none⟩ = some (.int .i64 n)) :
    Calls Tryz.prog 93 (#[.int .i64 m] ++ #[.pointer (some ⟨b, 0, none⟩), .pointer (some ⟨c, 0, none⟩), .pointer (some ⟨d, 0, none⟩)]) w fun e w' => e = .returned (.bool (R.lone n m)) ∧ Below w.heap.size w w' := by
  have H : Hid (RingAt w r gp gk R) := h
  obtain ⟨a, len, cap, hp, hlook⟩ := h.askedAll m
  have HP : Hid (PeIn w (R.know m).id (R.know m).pred a len cap (R.know m).succ) := hp
  have c1 := h.c1
  have z := h.lt.1
  obtain ⟨ι, F, _, hF0, hFb, hFc⟩ := grown_fam w
  have F0 : ∀ i, (F i).cell? ⟨b, 0, none⟩ = some (.int .i64 n) := fun i => cell_grown hb (hFb i)
  have F1 : ∀ i, (F i).cell? ⟨c, 0, none⟩ = some (.pointer (some ⟨r, 0, none⟩)) := fun i => cell_grown hc (hFb i)
  have F2 : ∀ i, (F i).cell? ⟨d, 0, none⟩ = some (.pointer (some ⟨r, 0, none⟩)) := fun i => cell_grown hd0 (hFb i)
  have F3 : ∀ i, (F i).cell? ⟨d, 1, none⟩ = some (.int .i64 n) := fun i => cell_grown hd1 (hFb i)
  have F4 : ∀ i, (F i).cell? ⟨r, 1, none⟩ = some (.map (some gk)) := fun i => cell_grown c1 (hFb i)
  have F5 : ∀ i, (Instr.lookup 113 (.map (some gk)) (.int .i64 m) false).run Tryz.prog (F i) = .ok (.agg #[.int .u64 (R.know m).id, .int .i64 (R.know m).pred, .slice a len cap]) (F i) := fun i => hlook _ (hFb i)
  have HF : Hid ((∃ i, { w with drawn := w.drawn + 1 } = F i) ∧ (∀ i, Below w.heap.size w (F i)) ∧ (∀ i W, Below w.heap.size (F i) W → ∃ j, W = F j)) := ⟨hF0, hFb, hFc⟩
  clear h hp hlook hF0 hFb hFc hb hc hd0 hd1 c1
  simp only [List.append_toArray, List.cons_append, List.nil_append]
  by_cases q : m = n
  · subst q
    have e : (m != m) = false := by simp
    have E : Hid (R.lone m m = false) := (by simp [Rg.lone] : R.lone m m = false)
    go_enter Tryz.func93, Tryz.ntmps93
    go_wp2_with fail
    refine wp_region_fam F HF.out.1 (by kernel_rfl) (by kernel_rfl) ?_
    repeat (go_big_quiet_step (fail))
    refine wpQuiet_nil ?_
    rintro _ ⟨i, rfl⟩
    go_wp2
    go_ret
    exact ⟨ret_b E.out.symm, HF.out.2.1 i⟩
  · have e : (m != n) = true := by simpa using q
    obtain ⟨hd, hhd⟩ : ∃ hd, headF (fun x => x != -1 && (x != n && R.lives x)) (R.know m).succ = hd := ⟨_, rfl⟩
    have HH : Hid _ := hhd
    have E : Hid (R.lone n m = (hd == -1)) := (by simp [Rg.lone, e, hhd] : R.lone n m = (hd == -1))
    clear hhd
    go_enter Tryz.func93, Tryz.ntmps93
    go_wp2_with fail
    refine wp_region_fam F HF.out.1 (by kernel_rfl) (by kernel_rfl) ?_
    repeat (go_big_quiet_step (first
      | (go_at_call 54; refine (head_w r gp gk R n _ _ a len cap (R.know m).succ _ (H.out.below (HF.out.2.1 _)) (HP.out.row.below (Nat.le_refl _) (HF.out.2.1 _))).mono ?_; rintro e' w' ⟨hs, hb⟩; exact ⟨by rw [hs, HH.out], HF.out.2.2 _ _ (hb.mono (HF.out.2.1 _).size)⟩)))
    refine wpQuiet_nil ?_
    rintro _ ⟨i, rfl⟩
    go_wp2
    go_ret
    exact ⟨ret_b (by rw [E.out]), HF.out.2.1 i⟩

set_option maxHeartbeats 1000000 in
theorem needed_r (r gp gk : Nat) (R : Rg) (n : Int) (w : World) (h : RingAt w r gp gk R) :
    Calls Tryz.prog 66 #[.pointer (some ⟨r, 0, none⟩), .int .i64 n] w fun e w' => e = .returned (.bool (R.needed n)) ∧ Below w.heap.size w w' := by
  obtain ⟨W1, hW1⟩ : ∃ W1, W1 = ((w.alloc (.cells #[.pointer (some ⟨r, 0, none⟩)] 27)).alloc (.cells #[.int .i64 n] 3)).alloc (.cells #[.pointer (some ⟨r, 0, none⟩), .int .i64 n] 152) := ⟨_, rfl⟩
  have b1 : Hid (Below w.heap.size w W1) := by rw [hW1]; exact ((below_one _ _).trans ((below_one _ _).mono (by simp))).trans ((below_one _ _).mono (by simp; omega))
  have k0 : W1.heap[w.heap.size]? = some (.cells #[.pointer (some ⟨r, 0, none⟩)] 27 (0, 0)) := by
    rw [hW1, Below.heap_alloc _ _ _ (by simp; omega), Below.heap_alloc _ _ _ (by simp)]; exact heap_alloc_new w _
  have k1 : W1.heap[w.heap.size + 1]? = some (.cells #[.int .i64 n] 3 (0, 0)) := by
    rw [hW1, Below.heap_alloc _ _ _ (by simp)]; simpa using heap_alloc_new (w.alloc (.cells #[.pointer (some ⟨r, 0, none⟩)] 27)) (.cells #[.int .i64 n] 3)
  have k2 : W1.heap[w.heap.size + 2]? = some (.cells #[.pointer (some ⟨r, 0, none⟩), .int .i64 n] 152 (0, 0)) := by
    rw [hW1]; simpa using heap_alloc_new ((w.alloc (.cells #[.pointer (some ⟨r, 0, none⟩)] 27)).alloc (.cells #[.int .i64 n] 3)) (.cells #[.pointer (some ⟨r, 0, none⟩), .int .i64 n] 152)
  have H1 : Hid (RingAt W1 r gp gk R ∧ W1.cell? ⟨w.heap.size, 0, none⟩ = some (.pointer (some ⟨r, 0, none⟩)) ∧ W1.cell? ⟨w.heap.size + 1, 0, none⟩ = some (.int .i64 n) ∧ W1.cell? ⟨w.heap.size + 2, 0, none⟩ = some (.pointer (some ⟨r, 0, none⟩)) ∧ W1.cell? ⟨w.heap.size + 2, 1, none⟩ = some (.int .i64 n)) :=
    ⟨h.below b1.out, by simp [World.cell?, k0], by simp [World.cell?, k1], by simp [World.cell?, k2], by simp [World.cell?, k2]⟩
  have x0 := H1.out.2.1
  have zz : w.heap.size < W1.heap.size := by rw [hW1]; simp; omega
  clear h k0 k1 k2
  go_enter Tryz.func66, Tryz.ntmps66
  go_upto_region 2 with fail
  rw [← hW1]
  clear hW1
  go_wp2_with fail
  refine (live_r r gp gk R _ H1.out.1).mono ?_
  rintro e w2 ⟨a, c, rfl, hL, _, hb⟩
  have H2 : Hid (Below W1.heap.size W1 w2 ∧ InIn w2 a R.live.length R.live) := ⟨hb, hL⟩
  clear hb hL x0
  go_wp2_with fail
  refine (contains_f 93 #[.pointer (some ⟨w.heap.size + 1, 0, none⟩), .pointer (some ⟨w.heap.size, 0, none⟩), .pointer (some ⟨w.heap.size + 2, 0, none⟩)] a _ c R.live (fun m => R.lone n m) w2 enter_needed H2.out.2 (fun W m _ hW => ?_)).mono ?_
  · have hb2 : Below W1.heap.size W1 W := H2.out.1.trans (hW.mono H2.out.1.size)
    exact needed1_r r gp gk _ _ _ R n m W (H1.out.1.below hb2) (cell_grown H1.out.2.2.1 hb2) (cell_grown H1.out.2.1 hb2) (cell_grown H1.out.2.2.2.1 hb2) (cell_grown H1.out.2.2.2.2 hb2)
  rintro e w3 ⟨rfl, hb⟩
  go_wp2
  go_ret
  exact ⟨rfl, b1.out.trans ((H2.out.1.trans (hb.mono H2.out.1.size)).mono b1.out.size)⟩

/-- The first one, head by head, that a place comes next behind. -/
def Rg.head (R : Rg) (n : Int) : Int := headF R.lv (R.know n).succ
def Rg.aheadF (R : Rg) (id : Int) : Nat → Int → Int
  | 0, _ => -1
  | k + 1, x => if withinB id (R.idOf x) (R.idOf (R.head x)) then x else R.aheadF id k (R.head x)
def Rg.ahead (R : Rg) (id frm : Int) : Int := R.aheadF id 33 frm

set_option maxRecDepth 100000 in
set_option maxHeartbeats 2000000 in
theorem ahead_r (r gp gk : Nat) (R : Rg) (id frm : Int) (w : World) (h : RingAt w r gp gk R) :
    Calls Tryz.prog 64 #[.pointer (some ⟨r, 0, none⟩), .int .u64 id, .int .i64 frm] w fun e w' => e = .returned (.int .i64 (R.ahead id frm)) ∧ Below w.heap.size w w' := by
  have H : Hid (RingAt w r gp gk R) := h
  clear h
  go_enter Tryz.func64, Tryz.ntmps64
  go_wp2
  go_loopg [10, 7] 33 (fun kx s s7 wr => ∃ (k : Nat) (x : Int), s = .int .i64 k ∧ s7 = .int .i64 x ∧ k ≤ 33 ∧ kx = 33 - k ∧ Hid (Below w.heap.size w wr) ∧ Hid (R.aheadF id (33 - k) x = R.ahead id frm))
  case atStart => exact ⟨0, frm, rfl, rfl, Nat.zero_le _, rfl, (Below.refl _ _ : Below w.heap.size w w), (rfl : R.aheadF id (33 - 0) frm = R.ahead id frm)⟩
  case round =>
    obtain ⟨k, x, rfl, rfl, hk, rfl, HB, I⟩ := hrel
    by_cases hlt : k < 33
    · have HR : Hid (RingAt wr r gp gk R) := H.out.below HB.out
      obtain ⟨a, len, cap, hp, hlook⟩ := HR.out.asked x
      have HP : Hid (PeIn wr (R.know x).id (R.know x).pred a len cap (R.know x).succ) := hp
      have c1 := HR.out.c1
      have z := HR.out.lt.1
      have ek : 33 - k = (33 - (k + 1)) + 1 := by omega
      have E : Hid (R.aheadF id (33 - k) x = if withinB id (R.idOf x) (R.idOf (R.head x)) then x else R.aheadF id (33 - (k + 1)) (R.head x)) := by rw [ek]; rfl
      clear hp ek
      obtain ⟨hd, hhd⟩ : ∃ hd, headF R.lv (R.know x).succ = hd := ⟨_, rfl⟩
      have HH : Hid _ := hhd
      have HH' : Hid (R.head x = hd) := hhd
      clear hhd
      cases hq : withinB id (R.idOf x) (R.idOf hd)
      all_goals
        have HQ : Hid _ := hq
        clear hq
        go_wp2_with fail
        refine (head_r r gp gk R _ _ a len cap (R.know x).succ _ HR.out HP.out.row).mono ?_
        rintro e w2 ⟨rfl, hb⟩
        rw [HH.out]
        have HR2 : Hid (RingAt w2 r gp gk R) := HR.out.below hb
        have HB2 : Hid (Below w.heap.size w w2) := HB.out.trans (hb.mono HB.out.size)
        clear hb
        go_wp2_with (first
          | (go_at_call 86; refine (within_any _ _ _ _).mono ?_; rintro e w3 ⟨rfl, rfl⟩; rw [HQ.out])
          | (go_at_call 40; refine (id_r _ _ _ _ _ _ HR2.out).mono ?_; rintro e w3 ⟨rfl, rfl⟩))
      · go_roundg (33 - (k + 1))
        case measure => omega
        case rel => exact ⟨k + 1, hd, by go_num, rfl, by omega, rfl, HB2.out, by rw [← I.out, E.out, HH'.out, HQ.out]; rfl⟩
      · go_ret
        exact ⟨ret_i (by rw [← I.out, E.out, HH'.out, HQ.out]; rfl), HB2.out⟩
    · obtain rfl : k = 33 := by omega
      go_wp2
      go_ret
      exact ⟨ret_i (by rw [← I.out]; rfl), HB.out⟩
end Go.Proofs.YtgiiadjocfnhlabGreatDoor
