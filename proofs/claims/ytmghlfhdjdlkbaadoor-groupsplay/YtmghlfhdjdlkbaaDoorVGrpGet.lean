/- The program's own table of groups: what Get answers. -/
import Derived.Test.YtmghlfhdjdlkbaaDoorVGrpTab
namespace Go.Proofs.YtmghlfhdjdlkbaaDoor
open Go.RowKit

theorem AheadN.past {l : List PlaceM} {n : ByteArray} : ∀ {k : Nat}, AheadN l n k → PastN l n k
  | 0, _ => PastN.zero l n
  | k + 1, h => by
    have hk : k < l.length := h.1
    have h1 : AheadN l n k := ⟨by omega, fun x hx => h.2 x (by rw [List.take_succ_eq_append_getElem hk]; exact List.mem_append_left _ hx)⟩
    have h2 := h.2 l[k] (by rw [List.take_succ_eq_append_getElem hk]; exact List.mem_append_right _ (List.mem_singleton.2 rfl))
    exact h1.past.next hk (ltS_ne h2)
theorem StandsN.between {l : List PlaceM} {n : ByteArray} {k : Nat} (h : StandsN l n k) (hn : ¬ ∃ h : k < l.length, l[k].name = n) : ∀ hk : k < l.length, ltS l[k].name n = false ∧ l[k].name ≠ n :=
  fun hk => ⟨h.2 k hk (Nat.le_refl _), fun e => hn ⟨hk, e⟩⟩
theorem getN_none {n : ByteArray} : ∀ {l : List PlaceM}, hasN l n = false → getN l n = (0, false)
  | [], _ => rfl
  | y :: l, h => by
    rw [hasN_cons, Bool.or_eq_false_iff] at h
    unfold getN
    rw [if_neg (of_decide_eq_false h.1)]
    exact getN_none h.2
set_option maxHeartbeats 1600000 in
theorem gget_any {base g : Nat} {S : Nat → Prop} {w : World} {l : List PlaceM} (h : GTab base S w g l) (n : ByteArray) (_hn : n.size ≤ maxLen) :
    Calls Tryd.prog 9 #[.pointer (some ⟨g, 0, none⟩), .string n] w (fun e w' => e = .returned (.tuple #[.int .i64 (getN l n).1, .bool (getN l n).2]) ∧ Below w.heap.size w w') := by
  have HF := Lib.hid (gfind_any h n)
  have HT := Lib.hid h
  have hfew := h.tab.few
  clear h
  go_enter Tryd.func9, Tryd.ntmps9
  go_wp2_with fail
  refine HF.out.mono ?_
  rintro e w2 ⟨k, hk, rfl, hb⟩
  have HB := Lib.hid hb
  have HT2 : Hid (GTab base S w2 g l) := Lib.hid (HT.out.keep (U := Nobody) (Keep.of_below hb) fun _ _ h => h)
  have HK := Lib.hid hk
  clear hb hk HF HT
  by_cases hq : ∃ h : k < l.length, l[k].name = n
  · obtain ⟨hkl, hkp⟩ := hq
    have dq : decide (∃ h : k < l.length, l[k].name = n) = true := decide_eq_true ⟨hkl, hkp⟩
    have HE := Lib.hid (HK.out.1.past.here hkl hkp)
    obtain ⟨b, off, e0, _, _, g0, g1⟩ := PlacesLie.at_ HT2.out.rows hkl
    injection e0 with e0
    injection e0 with e1 e2
    subst e1 e2
    generalize decide (∃ h : k < l.length, l[k].name = n) = dd at *
    subst dq
    obtain ⟨m, hm⟩ : ∃ m, l[k] = m := ⟨_, rfl⟩
    rw [hm] at g1 HE
    obtain ⟨mn, mo⟩ := m
    dsimp only at g1 HE
    clear hm g0 HK hkp
    have hkl2 : (k : Int) < 100 := by omega
    have hkl3 : k < 100 := by omega
    rw [Nat.zero_add] at g1
    go_wp2_with fail
    go_ret2
    exact ⟨by rw [HE.out]; rfl, HB.out⟩
  · have dq : decide (∃ h : k < l.length, l[k].name = n) = false := decide_eq_false hq
    have HE := Lib.hid (getN_none (hasN_between HT2.out.tab.sorted HK.out.1 (HK.out.between hq)))
    generalize decide (∃ h : k < l.length, l[k].name = n) = dd at *
    subst dq
    clear hq HK
    go_wp2_with fail
    go_ret2
    exact ⟨by rw [HE.out]; rfl, HB.out⟩
end Go.Proofs.YtmghlfhdjdlkbaaDoor
