/- The document's own table of groups: how it lies, and what Get answers. -/
import Derived.Test.YtmghlfhdjdlkbaaDoorPlaceNum
import Derived.Test.YtmghlfhdjdlkbaaDoorRep
import Derived.Test.YtmghlfhdjdlkbaaDoorKeep
import Derived.Deep.QuietTactic
import Derived.BigQuiet
import Derived.Deep.DeepCutAuto
namespace Go.Proofs.YtmghlfhdjdlkbaaDoor
open Go.RowKit

def placeCells (m : PlaceM) : List Value := [.string m.name, .int .i64 m.off]
theorem placeCells_one (m : PlaceM) : ∀ u ∈ placeCells m, u.oneCell' = true := by
  intro u hu
  simp only [placeCells, List.mem_cons, List.not_mem_nil, or_false] at hu
  rcases hu with rfl | rfl <;> rfl
def placeRep : Rep PlaceM := Rep.flat 2 (by decide) placeCells (fun _ => rfl) placeCells_one
theorem place_cells {w : World} {S : Nat → Prop} {b o : Nat} {m : PlaceM} (h : RowAt placeRep w S b o m) : w.cell? ⟨b, o, none⟩ = some (.string m.name) ∧ w.cell? ⟨b, o + 1, none⟩ = some (.int .i64 m.off) := by
  obtain ⟨cs, rfl, h2⟩ := h
  exact ⟨h2 0 _ rfl, h2 1 _ rfl⟩
theorem PlacesLie.at_ {w : World} {S : Nat → Prop} {A : Option Addr} {ms : List PlaceM} {cap : Nat} (h : RowsLie placeRep w S A ms cap) {i : Nat} (hi : i < ms.length) :
    ∃ b off, A = some ⟨b, off, none⟩ ∧ b < w.heap.size ∧ S b ∧ w.cell? ⟨b, off + i * 2, none⟩ = some (.string ms[i].name) ∧ w.cell? ⟨b, off + i * 2 + 1, none⟩ = some (.int .i64 ms[i].off) := by
  obtain ⟨b, off, e, hb, hs, hr⟩ := h.more hi
  exact ⟨b, off, e, hb, hs, place_cells hr⟩
/-- The document's table lies in block q, with all that it points to in the blocks T. -/
def RPl (base : Nat) (T : Nat → Prop) (w : World) (q : Nat) (l : List PlaceM) : Prop :=
  Within base T w ∧ T q ∧ PlacesM l ∧ ∃ A cap, w.heap[q]? = some (.cells #[.slice A l.length cap] 32) ∧ (A = none → cap = 0) ∧ RowsLie placeRep w (fun b => T b ∧ b ≠ q) A l cap
section
variable {base q : Nat} {T U : Nat → Prop} {w w' : World} {l : List PlaceM}
theorem RPl.within (h : RPl base T w q l) : Within base T w := h.1
theorem RPl.tab (h : RPl base T w q l) : PlacesM l := h.2.2.1
theorem RPl.keep (h : RPl base T w q l) (hk : Keep U w w') (ha : ∀ i, T i → ¬ U i) : RPl base T w' q l := by
  obtain ⟨h1, h2, h3, A, cap, h4, h5, h6⟩ := h
  have hb : ∀ b, T b → w'.heap[b]? = w.heap[b]? := fun b hb => hk.block b (h1.2 b hb).2 (ha b hb)
  exact ⟨h1.more hk.size, h2, h3, A, cap, (hb q h2).trans h4, h5, h6.keep hk.size fun b hs => hb b hs.1⟩
theorem RPl.below (h : RPl base T w q l) (hb : Below w.heap.size w w') : RPl base T w' q l := h.keep (U := Nobody) (Keep.of_below hb) fun _ _ h => h
end
theorem rpl_new (w : World) {base : Nat} (hb : base ≤ w.heap.size) : RPl base (fun i => i = w.heap.size) (w.alloc (.cells #[.slice none 0 0] 32)) w.heap.size [] :=
  ⟨⟨by simp; omega, fun i hi => by subst hi; simp; omega⟩, rfl, PlacesM.nil, none, 0, heap_alloc_new w _, fun _ => rfl, RowsLie.nil (by simp [maxLen])⟩
set_option maxHeartbeats 1600000 in
theorem rget_any {base q : Nat} {T : Nat → Prop} {w : World} {l : List PlaceM} (h : RPl base T w q l) (n : ByteArray) :
    Calls Tryd.prog 10 #[.pointer (some ⟨q, 0, none⟩), .string n] w (fun e w' => e = .returned (.tuple #[.int .i64 (getN l n).1, .bool (getN l n).2]) ∧ Below w.heap.size w w') := by
  obtain ⟨hW, hq, ht, A, cap, hb, hA, hl⟩ := h
  have c0 : w.cell? ⟨q, 0, none⟩ = some (.slice A l.length cap) := by unfold World.cell?; rw [hb]; rfl
  have hfew := ht.few
  have hcl := hl.2.1
  have hcm := hl.2.2
  unfold maxLen at hcm
  have HL := Lib.hid hl
  have HB := Lib.hid (Below.refl w.heap.size w)
  clear hl hW hb ht hA
  go_enter Tryd.func10, Tryd.ntmps10
  go_wp2_with fail
  go_loopw [6] (fun iv wr => ∃ i : Nat, iv = .int .i64 i ∧ PastN l n i ∧ wr = w) (fun iv _ => l.length - (intOf iv).toNat)
  case atStart => exact ⟨0, rfl, PastN.zero l n, rfl⟩
  case round =>
    obtain ⟨i, rfl, hpast, hwr⟩ := hrel
    have hwr' := hwr.symm
    clear hwr
    subst hwr'
    have hi := hpast.1
    have HP := Lib.hid hpast
    by_cases hlt : i < l.length
    · obtain ⟨b, off, rfl, hb0, _, g0, g1⟩ := PlacesLie.at_ HL.out hlt
      have HX := Lib.hid (fun hp => HP.out.here hlt hp)
      have HN := Lib.hid (fun hp => HP.out.next hlt hp)
      obtain ⟨m, hm⟩ : ∃ m, l[i] = m := ⟨_, rfl⟩
      rw [hm] at g0 g1 HX HN
      obtain ⟨mn, mo⟩ := m
      dsimp only at g0 g1 HX HN
      clear hm hpast
      by_cases hp : mn = n
      · have HE := Lib.hid (HX.out hp)
        have bp : (mn.toList == n.toList) = true := by rw [name_beq]; exact decide_eq_true hp
        clear HX HN hp
        go_wp2_with fail
        try go_quiet (fail)
        try go_wp2_with fail
        go_ret2
        exact ⟨by rw [HE.out]; rfl, HB.out⟩
      · have HN2 := Lib.hid (HN.out hp)
        have bp : (mn.toList == n.toList) = false := by rw [name_beq]; exact decide_eq_false hp
        clear HX HN hp
        go_wp2_with fail
        go_roundw
        case rel => exact ⟨i + 1, by go_num, HN2.out, trivial⟩
        case measure => simp [intOf]; omega
    · obtain rfl : i = l.length := by omega
      have HE := Lib.hid (HP.out.over (Nat.le_refl _))
      clear hpast
      go_wp2_with fail
      go_ret2
      exact ⟨by rw [HE.out]; rfl, HB.out⟩
end Go.Proofs.YtmghlfhdjdlkbaaDoor
