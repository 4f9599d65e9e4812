/- Predicates as the reader's and as the schema's; filter.Read of what was printed. -/
import Derived.Test.YtkncpojijfeahaaGreatDoorFilPrt2
import Derived.Test.YtkncpojijfeahaaGreatDoorJoinBkBase
import Derived.Test.YtkncpojijfeahaaGreatDoorJoinValName
namespace Go.Proofs.YtkncpojijfeahaaGreatDoor
open Go.ChangeShapes Go.WideShapes Go.ChangeAt Go.RowKit
set_option linter.unusedVariables false

theorem ba_of (s : ByteArray) : ba s.data.toList = s := by cases s; simp [ba]
def plOf (p : Pd) : Pl := ⟨p.name.data.toList, p.op, p.lo, p.hi, p.str.data.toList⟩
def pdOf (q : Pl) : Pd := ⟨ba q.name, q.op, q.lo, q.hi, ba q.str⟩
theorem pdOf_plOf (p : Pd) : pdOf (plOf p) = p := by cases p; simp [pdOf, plOf, ba_of]
theorem map_back (ps : List Pd) : (ps.map plOf).map pdOf = ps := by
  rw [List.map_map]
  have : pdOf ∘ plOf = id := by funext p; exact pdOf_plOf p
  rw [this, List.map_id]
theorem plOf_getD (ps : List Pd) (i : Nat) (hi : i < ps.length) : (ps.map plOf).getD i pl0 = plOf (ps.getD i pd0) := by simp [hi]
theorem pdOf_getD (qs : List Pl) (i : Nat) (hi : i < qs.length) : (qs.map pdOf).getD i pd0 = pdOf (qs.getD i pl0) := by simp [hi]
theorem PlIn.ofPd {w : World} {v : Value} {ps : List Pd} (h : PdIn w v ps) : PlIn w v (ps.map plOf) := by
  obtain ⟨a, c, hv, hh⟩ := h.shape
  refine ⟨a, c, by rw [List.length_map]; exact hv, fun hp => ?_⟩
  rw [List.length_map] at hp
  obtain ⟨g, ha, hg, hc, hj⟩ := hh hp
  refine ⟨g, ha, hg, by rw [List.length_map]; exact hc, fun i hi j hj5 => ?_⟩
  rw [List.length_map] at hi
  rw [plOf_getD ps i hi]
  obtain ⟨k0, k1, k2, k3, k4⟩ := hj i hi
  generalize ps.getD i pd0 = x at *
  rcases (show j = 0 ∨ j = 1 ∨ j = 2 ∨ j = 3 ∨ j = 4 by omega) with rfl | rfl | rfl | rfl | rfl
  · show _ = some (Value.string (ba x.name.data.toList)); rw [ba_of]; exact k0
  · exact k1
  · exact k2
  · exact k3
  · show _ = some (Value.string (ba x.str.data.toList)); rw [ba_of]; exact k4
theorem PdIn.ofPl {w : World} {v : Value} {qs : List Pl} (h : PlIn w v qs) : PdIn w v (qs.map pdOf) := by
  obtain ⟨a, c, hv, hh⟩ := h.shape
  refine ⟨a, c, by rw [List.length_map]; exact hv, fun hp => ?_⟩
  rw [List.length_map] at hp
  obtain ⟨g, ha, hg, hc, hj⟩ := hh hp
  refine ⟨g, ha, hg, by rw [List.length_map]; exact hc, fun i hi => ?_⟩
  rw [List.length_map] at hi
  rw [pdOf_getD qs i hi]
  have q := fun j hj5 => hj i hi j hj5
  exact ⟨q 0 (by omega), q 1 (by omega), q 2 (by omega), q 3 (by omega), q 4 (by omega)⟩
theorem letter_of {c : UInt8} (h : letterP c) : isLetter c = true := by unfold letterP at h; unfold isLetter; simp; omega
theorem digit_of {c : UInt8} (h : digitP c) : isDigit c = true := by unfold digitP at h; unfold isDigit; simp; omega
theorem name_bytes {s : ByteArray} (h : NameOk s) : (∃ c r, s.data.toList = c :: r ∧ isLetter c = true) ∧ (∀ c ∈ s.data.toList, alnum c = true) ∧ s.data.toList.length ≤ 12 := by
  have hlo := h.lo
  have hhi := h.hi
  refine ⟨?_, fun c hc => ?_, by simpa using hhi⟩
  · have e := dr_cons s 0 (by omega)
    have e0 : dr s 0 = s.data.toList := by simp [dr]
    rw [e0] at e
    refine ⟨_, _, e, ?_⟩
    rcases h.ch 0 (by omega) with h1 | h1
    · exact letter_of h1
    · exact absurd rfl h1.1
  · obtain ⟨i, hi, rfl⟩ := List.getElem_of_mem hc
    have hi' : i < s.size := by simpa using hi
    have e : s.data.toList[i] = s[i] := rfl
    rw [e]
    unfold alnum
    rcases h.ch i hi' with h1 | h1
    · rw [letter_of h1]; rfl
    · rw [digit_of h1.2]; simp
theorem strok_bytes {s : ByteArray} (h : StrOk s) : (∀ c ∈ s.data.toList, 32 ≤ c.toNat ∧ c.toNat ≤ 126) ∧ s.data.toList.length ≤ 40 := by
  refine ⟨fun c hc => ?_, by have := h.le; simpa using this⟩
  obtain ⟨i, hi, rfl⟩ := List.getElem_of_mem hc
  have h1 := h.ch i (by simpa using hi)
  have e : s.data.toList[i] = s[i]'(by simpa using hi) := rfl
  rw [e]; omega
/-- What is a schema's filter can be printed. -/
theorem prn_of {az : List At} {ps : List Pd} (hS : SchemaOk az) (hF : FilterOk az ps) : ∀ q ∈ ps.map plOf, PrnL q := by
  intro q hq
  obtain ⟨p, hp, rfl⟩ := List.mem_map.1 hq
  obtain ⟨i, hi, rfl⟩ := List.getElem_of_mem hp
  have e : ps.getD i pd0 = ps[i] := by simp [hi]
  obtain ⟨_, k, hk, hok⟩ := hF.2.2 i hi
  rw [e] at hk hok
  obtain ⟨hkl, hkn, _⟩ := hk
  obtain ⟨hN, hkind⟩ := (hS.2.2 k hkl).1
  rw [hkn] at hN
  obtain ⟨b1, b2, b3⟩ := name_bytes hN
  generalize ps[i] = x at *
  rcases hok with ⟨ho, hka, h1, h2, h3, h4⟩ | ⟨ho, hka, h1, h2, h3⟩
  · have hb : -2147483648 ≤ (az.getD k at0).mn ∧ (az.getD k at0).mx ≤ 2147483648 := by
      rcases hkind with hh | hh
      · exact ⟨hh.2.1, hh.2.2.2⟩
      · omega
    have hs0 : (plOf x).str = [] := by show x.str.data.toList = []; rw [h4]; rfl
    exact ⟨⟨b1, b2, Or.inl ⟨ho, by show _ ≤ x.lo; omega, by show x.lo ≤ _; omega, by show _ ≤ x.hi; omega, by show x.hi ≤ _; omega, hs0⟩⟩, Nat.le_trans b3 (by omega), by rw [hs0]; simp⟩
  · obtain ⟨c1, c2⟩ := strok_bytes h1
    exact ⟨⟨b1, b2, Or.inr ⟨by rcases ho with h | h; exact Or.inl h; exact Or.inr h.1, h2, h3, c1⟩⟩, Nat.le_trans b3 (by omega), Nat.le_trans c2 (by omega)⟩

set_option maxRecDepth 100000 in
set_option maxHeartbeats 1000000 in
theorem read_back (v : Value) (az : List At) (ps : List Pd) (W : World) (E : Env W) (hA : AtIn W v az) (hS : SchemaOk az) (hF : FilterOk az ps) (ht : (ba (pF (ps.map plOf))).size ≤ 300) :
    Calls Tryz.prog 24 #[v, .string (ba (pF (ps.map plOf)))] W fun e w' => ∃ u, e = .returned (.tuple #[u, .nilIface]) ∧ PlIn w' u (ps.map plOf) ∧ Below W.heap.size W w' := by
  have hne : ps.map plOf ≠ [] := by
    intro e
    have := hF.1
    have h0 : (ps.map plOf).length = 0 := by rw [e]; rfl
    rw [List.length_map] at h0
    omega
  have HPB : Hid (pars (ba (pF (ps.map plOf))).data.toList = .ok (ps.map plOf) []) := by
    rw [Hid, ba_list]
    exact pars_back _ (fun p hp => (prn_of hS hF p hp).prn) hne
  have HPA : Hid _ := parse_any (ba (pF (ps.map plOf))) W E (by unfold maxLen; omega)
  have HH : Hid (AtIn W v az ∧ FilterOk az ps ∧ az.length ≤ 1000 ∧ ps.length ≤ 1000) := ⟨hA, hF, by have := hS.2.1; omega, by have := hF.2.1; omega⟩
  have HST : Hid (∀ i, i < ps.length → (ps.getD i pd0).str.size ≤ maxLen) := fun i hi => by
    have hp := prn_of hS hF (plOf (ps.getD i pd0)) (by
      have e : ps.getD i pd0 = ps[i] := by simp [hi]
      rw [e]
      exact List.mem_map.2 ⟨_, List.getElem_mem hi, rfl⟩)
    have hl := hp.sl
    have e2 : (plOf (ps.getD i pd0)).str.length = (ps.getD i pd0).str.size := by show (ps.getD i pd0).str.data.toList.length = _; simp
    rw [e2] at hl
    unfold maxLen; omega
  have hsz := ht
  clear hA hS hF ht E hne
  generalize ba (pF (ps.map plOf)) = t at *
  go_enter Tryz.func24, Tryz.ntmps24
  go_wp2_with fail
  refine Calls.mono HPA.out ?_
  rintro e W1 ⟨hAn, b1⟩
  obtain ⟨u, rfl, hrow⟩ := hAn.ok (by omega) HPB.out
  have HP1 : Hid (PlIn W1 u (ps.map plOf) ∧ Below W.heap.size W W1) := ⟨PlIn.ofOwn hrow, b1⟩
  clear hAn hrow b1 HPA
  go_wp2_with fail
  have hfa := filter_any v u az ps W1 (HH.out.1.below HP1.out.2) (by have := PdIn.ofPl HP1.out.1; rw [map_back] at this; exact this) HH.out.2.2.1 HH.out.2.2.2 HST.out
  refine Calls.mono hfa ?_
  rintro e W2 ⟨hE, b2⟩
  have := hE.t HH.out.2.1
  subst this
  have HP2 : Hid (PlIn W2 u (ps.map plOf) ∧ Below W.heap.size W W2) := ⟨HP1.out.1.below b2, HP1.out.2.trans (b2.mono HP1.out.2.size)⟩
  clear hE b2 hfa HP1
  go_wp2
  go_ret2
  exact ⟨u, rfl, HP2.out.1, HP2.out.2⟩
end Go.Proofs.YtkncpojijfeahaaGreatDoor
