/- The reader of package filter: filter; filter.Parse. -/
import Derived.Test.YtpepbhmdfjpblaaGreatDoorFilOne
import Derived.Test.YtpepbhmdfjpblaaGreatDoorFilIs
import Derived.Test.YtpepbhmdfjpblaaGreatDoorOwnSrc5
namespace Go.Proofs.YtpepbhmdfjpblaaGreatDoor
open Go.ChangeShapes Go.WideShapes Go.ChangeAt Go.RowKit
set_option linter.unusedVariables false

def rFil : Nat → List Pl → List UInt8 → Ps (List Pl)
  | 0, _, l => .fail false l
  | n + 1, acc, l => match rPred l with
    | .fail e r => .fail e r
    | .ok q r => match rThis [97, 110, 100] r with
      | .fail true r' => .ok (acc ++ [q]) r'
      | .fail false r' => .fail false r'
      | .ok _ r' => rFil n (acc ++ [q]) r'

theorem rChars_len (l : List UInt8) : ∀ acc, (rChars acc l).left.length ≤ l.length := by
  induction hn : l.length using Nat.strongRecOn generalizing l with
  | _ n ih =>
    intro acc
    cases l with
    | nil => unfold rChars; simp [Ps.left]
    | cons c r =>
      have hl : n = r.length + 1 := by rw [← hn]; rfl
      unfold rChars
      split
      · simp [Ps.left]; omega
      · split
        · simp [Ps.left]; omega
        · split
          · cases r with
            | nil => simp [Ps.left]
            | cons d r' =>
              simp only
              split
              · have := ih r'.length (by simp at hl; omega) r' rfl (acc ++ [d])
                simp at hl; omega
              · simp [Ps.left] at hl ⊢; omega
          · have := ih r.length (by omega) r rfl (acc ++ [c])
            omega
theorem suf_len {l r : List UInt8} (h : r <:+ l) : r.length ≤ l.length := h.length_le
theorem rStr_len (l : List UInt8) : (rStr l).left.length ≤ l.length := by
  have h := suf_len (rMark_suf [34] l)
  unfold rStr
  split
  · rename_i e; rw [e] at h; exact Nat.le_trans (rChars_len _ _) h
  · rename_i e; rw [e] at h; exact h
theorem rMarkStr_len (m l : List UInt8) : (rMarkStr m l).left.length ≤ l.length := by
  have h := suf_len (rMark_suf m l)
  unfold rMarkStr
  split
  · rename_i e; rw [e] at h; exact Nat.le_trans (rStr_len _) h
  · rename_i e; rw [e] at h; exact h
theorem rNumber_len (l : List UInt8) : (rNumber l).left.length ≤ l.length := by
  have h := suf_len (List.dropWhile_suffix (p := isBlank) (l := l))
  unfold rNumber
  split
  · simp [Ps.left]
  · rename_i c r e
    rw [e] at h
    split
    · split
      · refine Nat.le_trans ?_ h
        unfold nRest
        exact Nat.le_trans (suf_len (List.dropWhile_suffix _)) (by simp)
      · exact h
    · exact h
theorem rNums_len (l : List UInt8) : (rNums l).left.length ≤ l.length := by
  have h := suf_len (rThis_suf [105, 110] l)
  unfold rNums
  split
  · rename_i e; rw [e] at h; exact h
  · rename_i r e
    rw [e] at h
    have h2 := rNumber_len r
    split
    · rename_i e2; rw [e2] at h2; exact Nat.le_trans h2 h
    · rename_i lo r2 e2
      rw [e2] at h2
      have h3 := suf_len (rMark_suf [46, 46] r2)
      split
      · rename_i e3; rw [e3] at h3; exact Nat.le_trans h3 (Nat.le_trans h2 h)
      · rename_i r3 e3
        rw [e3] at h3
        have h4 := rNumber_len r3
        split
        · rename_i e4; rw [e4] at h4; exact Nat.le_trans h4 (Nat.le_trans h3 (Nat.le_trans h2 h))
        · rename_i e4; rw [e4] at h4; exact Nat.le_trans h4 (Nat.le_trans h3 (Nat.le_trans h2 h))
theorem rAsk_len (nm l : List UInt8) : (rAsk nm l).left.length ≤ l.length := by
  cases l with
  | nil => simp [rAsk, Ps.left]
  | cons c r =>
    unfold rAsk
    simp only
    split
    · have h := rMarkStr_len [61] (c :: r)
      split <;> (rename_i e; rw [e] at h; exact h)
    · split
      · have h := rMarkStr_len [94, 61] (c :: r)
        split <;> (rename_i e; rw [e] at h; exact h)
      · have h := rNums_len (c :: r)
        split <;> (rename_i e; rw [e] at h; exact h)
theorem rPred_len {l r : List UInt8} {q : Pl} (h : rPred l = .ok q r) : r.length < l.length := by
  unfold rPred at h
  split at h
  · cases h
  · rename_i nm r1 e1
    have h1 : r1.length < l.length := by
      unfold rWord at e1
      have hs := suf_len (List.dropWhile_suffix (p := isBlank) (l := l))
      split at e1
      · cases e1
      · rename_i c r' e'
        rw [e'] at hs
        split at e1
        · rename_i hc
          cases e1
          have : ((c :: r').dropWhile alnum) = r'.dropWhile alnum := by rw [List.dropWhile_cons, if_pos (by simp [alnum, hc])]
          rw [this]
          have := suf_len (List.dropWhile_suffix (p := alnum) (l := r'))
          simp at hs; omega
        · cases e1
    have h2 := suf_len (rBegin_suf r1)
    split at h
    · cases h
    · rename_i u r2 e2
      rw [e2] at h2
      have h3 := rAsk_len nm r2
      rw [h] at h3
      simp only [Ps.left] at h2 h3
      omega

/-- What filter carries: the reader's place, the predicates so far. -/
structure FlAt (w w' : World) (p : Nat) (s : ByteArray) (j : Nat) (v : Value) (acc : List Pl) : Prop where
  rd : Rd w' p s j
  kp : Kp w w' p
  row : w'.ownsRow w.heap.size 148 5 v acc.length (acc.flatMap Pl.cells)
theorem Pl.cells_len (q : Pl) : q.cells.length = 5 := rfl
theorem Tryz.infoPd : (Tryz.prog.info? 148).map (fun i => (i.zero, i.size, i.bytes)) = some (some (.agg #[.string ByteArray.empty, .int .i64 0, .int .i64 0, .int .i64 0, .string ByteArray.empty]), 5, 56) := by kernel_rfl
theorem row_kp {w w' w'' : World} {p : Nat} {v : Value} {n : Nat} {xs : List Value} (h : w'.ownsRow w.heap.size 148 5 v n xs) (hk : Kp w' w'' p) (hp : p < w.heap.size) : w''.ownsRow w.heap.size 148 5 v n xs := by
  refine ⟨h.1, ?_⟩
  rcases h.2 with h1 | ⟨g', cap, cur, hv, hbg, hg, hr⟩
  · exact .inl h1
  · exact .inr ⟨g', cap, cur, hv, hbg, (hk.block g' (lt_of_block hg) (by omega)).trans hg, hr⟩
theorem FlAt.kept {w w' w'' : World} {p : Nat} {s : ByteArray} {j j' : Nat} {v : Value} {acc : List Pl} (h : FlAt w w' p s j v acc) (hp : p < w.heap.size) (hr : Rd w'' p s j') (hk : Kp w' w'' p) : FlAt w w'' p s j' v acc :=
  ⟨hr, h.kp.trans hk, row_kp h.row hk hp⟩
theorem FlAt.below {w w' w'' : World} {p : Nat} {s : ByteArray} {j : Nat} {v : Value} {acc : List Pl} (h : FlAt w w' p s j v acc) (hp : p < w.heap.size) (hb : Below w'.heap.size w' w'') : FlAt w w'' p s j v acc :=
  h.kept hp (h.rd.below hb) (Kp.ofBelow hb)
theorem FlAt.app {w w' w2 : World} {p : Nat} {s : ByteArray} {j : Nat} {v v' : Value} {acc : List Pl} {q : Pl} (h : FlAt w w' p s j v acc) (hp : p < w.heap.size) (ha : Appended5 w.heap.size 148 w' w2 v v' (acc.length + 1) (acc.flatMap Pl.cells ++ q.cells)) :
    FlAt w w2 p s j v' (acc ++ [q]) := by
  have hg := ha.grown
  have hsz : w.heap.size ≤ w'.heap.size := h.kp.size
  have far : ∀ k, k < w.heap.size → some k ≠ v.ownBlock := fun k hk e => by have := (h.row.lt k e.symm).1; omega
  refine ⟨⟨(hg.block p h.rd.lt (far p hp)).trans h.rd.box, h.rd.le⟩, ⟨hg.os.trans h.kp.os, hg.tape.trans h.kp.tape, hg.output.trans h.kp.output, Nat.le_trans hsz hg.size, fun k hk hkp => ?_⟩, ?_⟩
  · rw [hg.block k (by omega) (far k hk)]
    exact h.kp.block k hk hkp
  · have := ha.row
    simpa [List.flatMap_append] using this
theorem src_Pl (w : World) (q : Pl) (x : Nat) (hx : x = w.heap.size) :
    Src Tryz.prog 5 103 (.slice (some ⟨x, 0, none⟩) 1 1) 1 q.cells (w.alloc (.cells #[.string (ba q.name), .int .i64 q.op, .int .i64 q.lo, .int .i64 q.hi, .string (ba q.str)] 148)) :=
  Src.ofSlice _ Tryz.underlying103 _ 1 1 _ rfl (fun j u hu => by
    subst hx
    have := World.news_of_block (cs := #[.string (ba q.name), .int .i64 q.op, .int .i64 q.lo, .int .i64 q.hi, .string (ba q.str)]) (t := 148) (fr := (0, 0)) (heap_alloc_new w _) j u (by simpa [Pl.cells] using hu)
    exact this) (by simp [Pl.cells, Value.oneCell'])
/-- What a filter's call answers. -/
def FilAns (e : Ending) (w w' : World) : Ps (List Pl) → Prop
  | .ok ps _ => ∃ v, e = .returned (.tuple #[v, .nilIface]) ∧ w'.ownsRow w.heap.size 148 5 v ps.length (ps.flatMap Pl.cells)
  | .fail b _ => e = .returned (.tuple #[.slice none 0 0, ec b])
end Go.Proofs.YtpepbhmdfjpblaaGreatDoor
