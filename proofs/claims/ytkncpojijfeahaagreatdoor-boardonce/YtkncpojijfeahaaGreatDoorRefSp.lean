/- The document's reader (wigwagref06): places in a text; bad, blanks, letter, digit. -/
import Derived.Test.YtkncpojijfeahaaGreatDoorFilRefM
import Derived.Test.YtkncpojijfeahaaGreatDoorFilOne
import Derived.Deep.LoopGhost
namespace Go.Proofs.YtkncpojijfeahaaGreatDoor
open Go.ChangeShapes Go.WideShapes Go.ChangeAt Go.RowKit
set_option linter.unusedVariables false

/-- A place in a text, as a value. -/
def spot (s : ByteArray) (k : Nat) (b : Bool) : Value := .agg #[.string s, .int .i64 (k : Int), .bool b]
/-- Where a rest of a text begins. -/
def pos (s : ByteArray) (l : List UInt8) : Nat := s.size - l.length
theorem pos_le (s : ByteArray) (l : List UInt8) : pos s l ≤ s.size := Nat.sub_le _ _
theorem pos_dr {s : ByteArray} {k : Nat} (hk : k ≤ s.size) : pos s (dr s k) = k := by unfold pos; rw [dr_len]; omega
theorem dr_posd {s : ByteArray} {k : Nat} {l : List UInt8} (h : l <:+ dr s k) : dr s (pos s l) = l := dr_suf h
theorem box_setG {w : World} {b i : Nat} {xs ys : Array Value} {t : TypeId} {v : Value} (h : w.heap[b]? = some (.cells xs t (0, 0))) (hx : xs.setIfInBounds i v = ys) : (w.setCell ⟨b, i, none⟩ v).heap[b]? = some (.cells ys t (0, 0)) := by
  have hlt := lt_of_block h
  have h' : w.heap[b] = .cells xs t (0, 0) := by simpa [Array.getElem?_eq_getElem hlt] using h
  subst hx
  show (w.heap.modify b _)[b]? = _
  rw [Array.getElem?_eq_getElem (by simpa using hlt), Array.getElem_modify_self, h']
  rfl
/-- The two blocks that a call of the reader's has made: the place, the answer. -/
structure Sp (w W : World) (s : ByteArray) (k : Nat) (b : Bool) : Prop where
  box : W.heap[w.heap.size]? = some (.cells #[.string s, .int .i64 (k : Int), .bool b] 196 (0, 0))
  out : W.heap[w.heap.size + 1]? = some (.cells #[.string ⟨#[]⟩, .int .i64 0, .bool false] 196 (0, 0))
  bel : Below w.heap.size w W
theorem alloc2_block (w : World) (o1 o2 : Obj) : ((w.alloc o1).alloc o2).heap[w.heap.size]? = (w.alloc o1).heap[w.heap.size]? := Below.heap_alloc _ _ _ (by simp)
theorem alloc2_new (w : World) (o1 o2 : Obj) : ((w.alloc o1).alloc o2).heap[w.heap.size + 1]? = ((w.alloc o1).alloc o2).heap[(w.alloc o1).heap.size]? := by simp
theorem Sp.init (w : World) (s : ByteArray) (k : Nat) (b : Bool) : Sp w ((w.alloc (.cells #[.string s, .int .i64 (k : Int), .bool b] 196)).alloc (.cells #[.string ⟨#[]⟩, .int .i64 0, .bool false] 196)) s k b :=
  ⟨(alloc2_block w _ _).trans (heap_alloc_new w _), (alloc2_new w _ _).trans (heap_alloc_new _ _), ((Below.refl _ _).alloc (Nat.le_refl _) _).alloc (by simp) _⟩
theorem Sp.below {w W W' : World} {s : ByteArray} {k : Nat} {b : Bool} (h : Sp w W s k b) (hb : Below W.heap.size W W') : Sp w W' s k b :=
  ⟨(hb.block _ (lt_of_block h.box)).trans h.box, (hb.block _ (lt_of_block h.out)).trans h.out, h.bel.trans (hb.mono h.bel.size)⟩
theorem Sp.set1 {w W : World} {s : ByteArray} {k : Nat} {b : Bool} (h : Sp w W s k b) (j : Nat) : Sp w (W.setCell ⟨w.heap.size, 1, none⟩ (.int .i64 (j : Int))) s j b :=
  ⟨box_setG h.box rfl, (Below.heap_setCell _ _ _ _ (by simp)).trans h.out, h.bel.setCell (by simp) _⟩
theorem Sp.set3 {w W : World} {s : ByteArray} {k : Nat} {b : Bool} (h : Sp w W s k b) (j : Nat) (c : Bool) : Sp w (((W.setCell ⟨w.heap.size, 0, none⟩ (.string s)).setCell ⟨w.heap.size, 1, none⟩ (.int .i64 (j : Int))).setCell ⟨w.heap.size, 2, none⟩ (.bool c)) s j c :=
  ⟨box_setG (box_setG (box_setG h.box rfl) rfl) rfl, (Below.heap_setCell _ _ _ _ (by simp)).trans ((Below.heap_setCell _ _ _ _ (by simp)).trans ((Below.heap_setCell _ _ _ _ (by simp)).trans h.out)), ((h.bel.setCell (by simp) _).setCell (by simp) _).setCell (by simp) _⟩
/-- The cells of the two blocks. -/
theorem Sp.cells {w W : World} {s : ByteArray} {k : Nat} {b : Bool} (h : Sp w W s k b) :
    W.cell? ⟨w.heap.size, 0, none⟩ = some (.string s) ∧ W.cell? ⟨w.heap.size, 1, none⟩ = some (.int .i64 (k : Int)) ∧ W.cell? ⟨w.heap.size, 2, none⟩ = some (.bool b) ∧ (∀ o, W.frozen? ⟨w.heap.size, o, none⟩ = false) ∧ w.heap.size < W.heap.size ∧
    W.cell? ⟨w.heap.size + 1, 0, none⟩ = some (.string ⟨#[]⟩) ∧ W.cell? ⟨w.heap.size + 1, 1, none⟩ = some (.int .i64 0) ∧ W.cell? ⟨w.heap.size + 1, 2, none⟩ = some (.bool false) ∧ (∀ o, W.frozen? ⟨w.heap.size + 1, o, none⟩ = false) ∧ w.heap.size + 1 < W.heap.size := by
  have h1 := h.box
  have h2 := h.out
  refine ⟨?_, ?_, ?_, ?_, lt_of_block h1, ?_, ?_, ?_, ?_, lt_of_block h2⟩
  · simp [World.cell?, h1]
  · simp [World.cell?, h1]
  · simp [World.cell?, h1]
  · intro o; simp [World.frozen?, h1]
  · simp [World.cell?, h2]
  · simp [World.cell?, h2]
  · simp [World.cell?, h2]
  · intro o; simp [World.frozen?, h2]
theorem Sp.done {w W : World} {s : ByteArray} {k : Nat} {b : Bool} (h : Sp w W s k b) (v0 v1 v2 : Value) : Below w.heap.size w (((W.setCell ⟨w.heap.size + 1, 0, none⟩ v0).setCell ⟨w.heap.size + 1, 1, none⟩ v1).setCell ⟨w.heap.size + 1, 2, none⟩ v2) :=
  ((h.bel.setCell (by simp) _).setCell (by simp) _).setCell (by simp) _

set_option maxHeartbeats 1000000 in
theorem rbad_f (s : ByteArray) (k j : Nat) (w : World) : Calls Tryz.prog 104 #[.agg #[.string s, .int .i64 (k : Int), .bool false], .int .i64 (j : Int)] w fun e w' => e = .returned (.agg #[.string s, .int .i64 (j : Int), .bool true]) ∧ Below w.heap.size w w' := by
  go_enter Tryz.func104, Tryz.ntmps104
  go_wp2
  exact bodyPost_ret (v := .agg #[.string s, .int .i64 (j : Int), .bool true]) (by simp [results, Tryz.results104, go_sem]) rfl ⟨rfl, ((Below.refl _ _).alloc (Nat.le_refl _) _).alloc (by simp) _⟩
set_option maxHeartbeats 1000000 in
theorem rbad_t (s : ByteArray) (k j : Nat) (w : World) : Calls Tryz.prog 104 #[.agg #[.string s, .int .i64 (k : Int), .bool true], .int .i64 (j : Int)] w fun e w' => e = .returned (.agg #[.string s, .int .i64 (k : Int), .bool true]) ∧ Below w.heap.size w w' := by
  go_enter Tryz.func104, Tryz.ntmps104
  go_wp2
  exact bodyPost_ret (v := .agg #[.string s, .int .i64 (k : Int), .bool true]) (by simp [results, Tryz.results104, go_sem]) rfl ⟨rfl, ((Below.refl _ _).alloc (Nat.le_refl _) _).alloc (by simp) _⟩
theorem rletter_any (c : UInt8) (w : World) : Calls Tryz.prog 106 #[.int .u8 (c.toNat : Int)] w fun e w' => e = .returned (.bool (isLetter c)) ∧ w' = w := by
  by_cases h1 : (97 : Int) ≤ (c.toNat : Int)
  · by_cases h2 : (c.toNat : Int) ≤ 122
    · have H : Hid (isLetter c = true) := by show isLetter c = true; unfold isLetter; simp; omega
      go_enter Tryz.func106, Tryz.ntmps106
      go_wp2
      go_ret
      exact ⟨by rw [H.out]; rfl, rfl⟩
    · have H : Hid (isLetter c = false) := by show isLetter c = false; unfold isLetter; simp; omega
      go_enter Tryz.func106, Tryz.ntmps106
      go_wp2
      go_ret
      exact ⟨by rw [H.out]; rfl, rfl⟩
  · have H : Hid (isLetter c = false) := by show isLetter c = false; unfold isLetter; simp; omega
    go_enter Tryz.func106, Tryz.ntmps106
    go_wp2
    go_ret
    exact ⟨by rw [H.out]; rfl, rfl⟩
theorem rdigit_any (c : UInt8) (w : World) : Calls Tryz.prog 107 #[.int .u8 (c.toNat : Int)] w fun e w' => e = .returned (.bool (isDigit c)) ∧ w' = w := by
  by_cases h1 : (48 : Int) ≤ (c.toNat : Int)
  · by_cases h2 : (c.toNat : Int) ≤ 57
    · have H : Hid (isDigit c = true) := by show isDigit c = true; unfold isDigit; simp; omega
      go_enter Tryz.func107, Tryz.ntmps107
      go_wp2
      go_ret
      exact ⟨by rw [H.out]; rfl, rfl⟩
    · have H : Hid (isDigit c = false) := by show isDigit c = false; unfold isDigit; simp; omega
      go_enter Tryz.func107, Tryz.ntmps107
      go_wp2
      go_ret
      exact ⟨by rw [H.out]; rfl, rfl⟩
  · have H : Hid (isDigit c = false) := by show isDigit c = false; unfold isDigit; simp; omega
    go_enter Tryz.func107, Tryz.ntmps107
    go_wp2
    go_ret
    exact ⟨by rw [H.out]; rfl, rfl⟩
theorem rletter_is {b : Bool} (c : UInt8) (w : World) (h : isLetter c = b) : Calls Tryz.prog 106 #[.int .u8 (c.toNat : Int)] w fun e w' => e = .returned (.bool b) ∧ w' = w := by subst h; exact rletter_any c w
theorem rdigit_is {b : Bool} (c : UInt8) (w : World) (h : isDigit c = b) : Calls Tryz.prog 107 #[.int .u8 (c.toNat : Int)] w fun e w' => e = .returned (.bool b) ∧ w' = w := by subst h; exact rdigit_any c w

/-- Behind the blanks. -/
def nb (s : ByteArray) (k : Nat) : Nat := pos s ((dr s k).dropWhile isBlank)
theorem nb_dr (s : ByteArray) (k : Nat) : dr s (nb s k) = (dr s k).dropWhile isBlank := dr_posd (List.dropWhile_suffix _)
theorem nb_le (s : ByteArray) (k : Nat) : nb s k ≤ s.size := pos_le _ _
set_option maxRecDepth 100000 in
set_option maxHeartbeats 1000000 in
theorem rblanks_f (s : ByteArray) (k : Nat) (w : World) (hk : k ≤ s.size) (hs : s.size ≤ 1000) : Calls Tryz.prog 88 #[.agg #[.string s, .int .i64 (k : Int), .bool false]] w fun e w' => e = .returned (.agg #[.string s, .int .i64 (nb s k : Int), .bool false]) ∧ Below w.heap.size w w' := by
  have HS : Hid (Sp w _ s k false) := Sp.init w s k false
  go_enter Tryz.func88, Tryz.ntmps88
  go_wp2_with fail
  go_loopg [] (s.size - k) (fun kx wr => ∃ j : Nat, j ≤ s.size ∧ kx = s.size - j ∧ Hid (Sp w wr s j false ∧ (dr s k).dropWhile isBlank = (dr s j).dropWhile isBlank))
  case atStart => exact ⟨k, hk, rfl, (⟨HS.out, rfl⟩ : _ ∧ _)⟩
  case round =>
    obtain ⟨j, hj, hkx, I⟩ := hrel
    obtain ⟨c0, c1, c2, cf, cl, d0, d1, d2, df, dl⟩ := I.out.1.cells
    by_cases hgo : ∃ h : j < s.size, (s[j].toNat : Int) = 32
    · obtain ⟨hlt, hc⟩ := hgo
      have I2 : Hid (Sp w (wr.setCell ⟨w.heap.size, 1, none⟩ (.int .i64 ((j + 1 : Nat) : Int))) s (j + 1) false ∧ (dr s k).dropWhile isBlank = (dr s (j + 1)).dropWhile isBlank) := ⟨I.out.1.set1 (j + 1), I.out.2.trans (blank_go s j hlt hc)⟩
      go_wp2
      go_roundg (s.size - (j + 1))
      case measure => omega
      case rel => exact ⟨j + 1, by omega, rfl, (by simpa using I2.out : _ ∧ _)⟩
    · have HN : Hid (nb s k = j) := by
        show nb s k = j
        unfold nb
        rw [I.out.2]
        by_cases hlt : j < s.size
        · rw [blank_stop s j hlt (fun h => hgo ⟨hlt, h⟩), pos_dr hj]
        · rw [dr_end s j (by omega)]
          show s.size - 0 = j
          omega
      have HB : Hid _ := I.out.1.done (.string s) (.int .i64 (j : Int)) (.bool false)
      rcases (show (¬ j < s.size) ∨ (∃ h : j < s.size, ¬ (s[j].toNat : Int) = 32) by
        by_cases hlt : j < s.size
        · exact Or.inr ⟨hlt, fun h => hgo ⟨hlt, h⟩⟩
        · exact Or.inl hlt) with hlt | ⟨hlt, hc⟩
      all_goals
        clear hgo I
        go_wp2
        refine bodyPost_ret (v := .agg #[.string s, .int .i64 (j : Int), .bool false]) (by simp [results, Tryz.results88, go_sem, *]) rfl ⟨by rw [HN.out], HB.out⟩
set_option maxRecDepth 100000 in
set_option maxHeartbeats 1000000 in
theorem rblanks_t (s : ByteArray) (k : Nat) (w : World) : Calls Tryz.prog 88 #[.agg #[.string s, .int .i64 (k : Int), .bool true]] w fun e w' => e = .returned (.agg #[.string s, .int .i64 (k : Int), .bool true]) ∧ Below w.heap.size w w' := by
  have HS : Hid (Sp w _ s k true) := Sp.init w s k true
  go_enter Tryz.func88, Tryz.ntmps88
  go_wp2_with fail
  go_loopg [] 0 (fun kx wr => kx = 0 ∧ Hid (Sp w wr s k true))
  case atStart => exact ⟨rfl, HS⟩
  case round =>
    obtain ⟨hkx, I⟩ := hrel
    obtain ⟨c0, c1, c2, cf, cl, d0, d1, d2, df, dl⟩ := I.out.cells
    have HB : Hid _ := I.out.done (.string s) (.int .i64 (k : Int)) (.bool true)
    go_wp2
    exact bodyPost_ret (v := .agg #[.string s, .int .i64 (k : Int), .bool true]) (by simp [results, Tryz.results88, go_sem, *]) rfl ⟨rfl, HB.out⟩
end Go.Proofs.YtkncpojijfeahaaGreatDoor
