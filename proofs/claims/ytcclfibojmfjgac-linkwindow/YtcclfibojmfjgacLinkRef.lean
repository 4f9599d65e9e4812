/- wigwagref04.Packet: the same bytes. -/
import Derived.Test.YtcclfibojmfjgacLinkRW
import Derived.Test.YtcclfibojmfjgacCodeRef
namespace Go.Proofs.Ytcclfibojmfjgac
open Go.ChangeShapes Go.WideShapes Go.ChangeAt Go.RowKit
set_option linter.unusedVariables false

theorem refpk_any (n c : Int) (s : ByteArray) (w : World) (hn : i64 n) (hc : i64 c) (hs : s.size ≤ 2000) :
    Calls Try.prog 9 #[.int .i64 n, .int .i64 c, .string s] w fun e w' => e = .returned (.string ⟨(pkB n c s).toArray⟩) ∧ Below w.heap.size w w' := by
  have l1 := numB_len10 (zig n) (zig_lt n hn.1 hn.2)
  have l2 := numB_len10 (zig c) (zig_lt c hc.1 hc.2)
  have l3 := numB_len10 s.size (by omega)
  have l4 : s.data.toList.length = s.size := by simp
  have HN : Hid (i64 n ∧ i64 c) := ⟨hn, hc⟩
  clear hn hc
  go_enter Try.func9, Try.ntmps9
  go_wp2_with fail
  refine (ref_int n _ HN.out.1.1 HN.out.1.2).mono ?_
  rintro e w1 ⟨rfl, b1⟩
  go_wp2_with fail
  refine (ref_int c _ HN.out.2.1 HN.out.2.2).mono ?_
  rintro e w2 ⟨rfl, b2⟩
  go_wp2_with fail
  refine (ref_text s _ (by omega)).mono ?_
  rintro e w3 ⟨rfl, b3⟩
  have HB : Hid (Below w.heap.size w w3) := (b1.trans (b2.mono b1.size)).trans (b3.mono (Nat.le_trans b1.size b2.size))
  clear b1 b2 b3
  go_wp2
  go_ret
  refine ⟨ret_s ?_, HB.out⟩
  rw [str_append, str_append]
  simp [pkB]
end Go.Proofs.Ytcclfibojmfjgac
