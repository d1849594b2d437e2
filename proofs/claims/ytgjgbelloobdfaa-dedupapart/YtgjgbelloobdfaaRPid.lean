/- The document's own table of producers: how it lies, and what Ask answers. -/
import Derived.Test.YtgjgbelloobdfaaPidAt
import Derived.Test.YtgjgbelloobdfaaRep
import Derived.Test.YtgjgbelloobdfaaKeep
import Derived.Deep.QuietTactic
import Derived.BigQuiet
import Derived.Deep.DeepCutAuto
namespace Go.Proofs.Ytgjgbelloobdfaa
open Go.RowKit

def pidCells (m : PidM) : List Value := [.int .i64 m.pid, .int .i64 m.seq, .int .i64 m.off]
theorem pidCells_one (m : PidM) : ∀ u ∈ pidCells m, u.oneCell' = true := by
  intro u hu
  simp only [pidCells, List.mem_cons, List.not_mem_nil, or_false] at hu
  rcases hu with rfl | rfl | rfl <;> rfl
def pidRep : Rep PidM := Rep.flat 3 (by decide) pidCells (fun _ => rfl) pidCells_one
theorem pid_cells {w : World} {S : Nat → Prop} {b o : Nat} {m : PidM} (h : RowAt pidRep w S b o m) : w.cell? ⟨b, o, none⟩ = some (.int .i64 m.pid) ∧ w.cell? ⟨b, o + 1, none⟩ = some (.int .i64 m.seq) ∧ w.cell? ⟨b, o + 2, none⟩ = some (.int .i64 m.off) := by
  obtain ⟨cs, rfl, h2⟩ := h
  exact ⟨h2 0 _ rfl, h2 1 _ rfl, h2 2 _ rfl⟩
theorem PidsLie.at_ {w : World} {S : Nat → Prop} {A : Option Addr} {ms : List PidM} {cap : Nat} (h : RowsLie pidRep w S A ms cap) {i : Nat} (hi : i < ms.length) :
    ∃ b off, A = some ⟨b, off, none⟩ ∧ b < w.heap.size ∧ S b ∧ w.cell? ⟨b, off + i * 3, none⟩ = some (.int .i64 ms[i].pid) ∧ w.cell? ⟨b, off + i * 3 + 1, none⟩ = some (.int .i64 ms[i].seq) ∧ w.cell? ⟨b, off + i * 3 + 2, none⟩ = some (.int .i64 ms[i].off) := by
  obtain ⟨b, off, e, hb, hs, hr⟩ := h.more hi
  exact ⟨b, off, e, hb, hs, pid_cells hr⟩
/-- The document's table lies in block q, with all that it points to in the blocks T. -/
def RTab (base : Nat) (T : Nat → Prop) (w : World) (q : Nat) (l : List PidM) : Prop :=
  Within base T w ∧ T q ∧ TabM l ∧ ∃ A cap, w.heap[q]? = some (.cells #[.slice A l.length cap] 32) ∧ (A = none → cap = 0) ∧ RowsLie pidRep w (fun b => T b ∧ b ≠ q) A l cap
section
variable {base q : Nat} {T U : Nat → Prop} {w w' : World} {l : List PidM}
theorem RTab.within (h : RTab base T w q l) : Within base T w := h.1
theorem RTab.tab (h : RTab base T w q l) : TabM l := h.2.2.1
theorem RTab.keep (h : RTab base T w q l) (hk : Keep U w w') (ha : ∀ i, T i → ¬ U i) : RTab base T w' q l := by
  obtain ⟨h1, h2, h3, A, cap, h4, h5, h6⟩ := h
  have hb : ∀ b, T b → w'.heap[b]? = w.heap[b]? := fun b hb => hk.block b (h1.2 b hb).2 (ha b hb)
  exact ⟨h1.more hk.size, h2, h3, A, cap, (hb q h2).trans h4, h5, h6.keep hk.size fun b hs => hb b hs.1⟩
theorem RTab.below (h : RTab base T w q l) (hb : Below w.heap.size w w') : RTab base T w' q l := h.keep (U := Nobody) (Keep.of_below hb) fun _ _ h => h
end
theorem rtab_new (w : World) {base : Nat} (hb : base ≤ w.heap.size) : RTab base (fun i => i = w.heap.size) (w.alloc (.cells #[.slice none 0 0] 32)) w.heap.size [] :=
  ⟨⟨by simp; omega, fun i hi => by subst hi; simp; omega⟩, rfl, TabM.nil, none, 0, heap_alloc_new w _, fun _ => rfl, RowsLie.nil (by simp [maxLen])⟩
set_option maxHeartbeats 1600000 in
theorem rask_any {base q : Nat} {T : Nat → Prop} {w : World} {l : List PidM} (h : RTab base T w q l) (p s : Int) (hs : -9223372036854775808 ≤ s ∧ s ≤ 9223372036854775807) :
    Calls Try.prog 10 #[.pointer (some ⟨q, 0, none⟩), .int .i64 p, .int .i64 s] w (fun e w' => e = .returned (.tuple #[.int .i64 (askP l p s).1, .int .i64 (askP l p s).2]) ∧ Below w.heap.size w w') := by
  obtain ⟨hW, hq, ht, A, cap, hb, hA, hl⟩ := h
  have c0 : w.cell? ⟨q, 0, none⟩ = some (.slice A l.length cap) := by unfold World.cell?; rw [hb]; rfl
  have hql := cell_block_lt c0
  have hfew := ht.few
  have hcl := hl.2.1
  have hcm := hl.2.2
  unfold maxLen at hcm
  have HL := Lib.hid hl
  have HTW := Lib.hid ht.wf
  have HS := Lib.hid hs
  have HSz : Hid (∀ b, (T b ∧ b ≠ q) → b < w.heap.size) := Lib.hid fun b hb => (hW.2 b hb.1).2
  clear hl hW hb ht hs hA
  go_enter Try.func10, Try.ntmps10
  go_wp2_with fail
  go_loopw [8] (fun iv wr => ∃ i : Nat, iv = .int .i64 i ∧ Past l p i ∧ Below w.heap.size w wr) (fun iv _ => l.length - (intOf iv).toNat)
  case atStart => exact ⟨0, rfl, Past.zero l p, Below.refl _ _⟩
  case round =>
    obtain ⟨i, rfl, hpast, hbel⟩ := hrel
    have hi := hpast.1
    have c0' := (hbel.cell (p := ⟨q, 0, none⟩) hql).trans c0
    have HB := Lib.hid hbel
    have HP := Lib.hid hpast
    have hbs := hbel.size
    by_cases hlt : i < l.length
    · obtain ⟨b, off, rfl, hb0, _, g0, g1, g2⟩ := PidsLie.at_ (HL.out.below hbel HSz.out) hlt
      have HX := Lib.hid (fun hp => HP.out.here hlt hp s)
      have HN := Lib.hid (fun hp => HP.out.next hlt hp)
      have hwf := HTW.out _ (List.getElem_mem hlt)
      obtain ⟨m, hm⟩ : ∃ m, l[i] = m := ⟨_, rfl⟩
      rw [hm] at g0 g1 g2 HX HN hwf
      obtain ⟨mp, ms, mo⟩ := m
      dsimp only at g0 g1 g2 HX HN
      have HBX := Lib.hid (hbel.alloc hbs (.cells #[.int .i64 mp, .int .i64 ms, .int .i64 mo] 52))
      have hseq : -9223372036854775808 ≤ ms ∧ ms ≤ 9223372036854775807 := hwf.2.1
      clear hm hwf hpast hbel
      by_cases hp : mp = p
      · subst hp
        have HE := Lib.hid (HX.out rfl)
        by_cases h1 : ms = s
        · subst h1
          have HV : Hid (askRow ⟨mp, ms, mo⟩ ms = (1, mo)) := Lib.hid (if_pos rfl)
          clear HX HN hseq
          go_upto_region 7 with fail
          go_quiet (fail)
          go_wp2_with fail
          go_ret2
          exact ⟨by rw [HE.out, HV.out]; rfl, ⟨HBX.out.os, HBX.out.tape, HBX.out.output, HBX.out.size, HBX.out.block⟩⟩
        · have b1 : (ms == s) = false := by simpa using h1
          have hs2 := HS.out
          by_cases h2 : ms < s
          · have d2 : decide (ms < s) = true := decide_eq_true h2
            have hw : wrap64 (s - 1) = s - 1 := by simp only [wrap64]; omega
            by_cases h3 : ms + 1 = s
            · have b3 : (ms == s - 1) = true := by simp; omega
              have HV : Hid (askRow ⟨mp, ms, mo⟩ s = (0, 0)) := Lib.hid (by unfold askRow; rw [if_neg h1, if_pos h3])
              clear HX HN hseq h1 h2 h3 hs2
              go_wp2_with fail
              go_ret2
              exact ⟨by rw [HE.out, HV.out]; rfl, HBX.out⟩
            · have b3 : (ms == s - 1) = false := by simp; omega
              have HV : Hid (askRow ⟨mp, ms, mo⟩ s = (2, 0)) := Lib.hid (by unfold askRow; rw [if_neg h1, if_neg h3])
              clear HX HN hseq h1 h2 h3 hs2
              go_wp2_with fail
              go_ret2
              exact ⟨by rw [HE.out, HV.out]; rfl, HBX.out⟩
          · have d2 : decide (ms < s) = false := decide_eq_false h2
            have HV : Hid (askRow ⟨mp, ms, mo⟩ s = (2, 0)) := Lib.hid (by unfold askRow; rw [if_neg h1, if_neg (show ¬ ms + 1 = s by omega)])
            clear HX HN hseq h1 h2 hs2
            go_wp2_with fail
            go_ret2
            exact ⟨by rw [HE.out, HV.out]; rfl, HBX.out⟩
      · have bp : (mp != p) = true := by simpa using hp
        have HN2 := Lib.hid (HN.out hp)
        clear HX HN hp hseq
        go_wp2_with fail
        go_roundw
        case rel => exact ⟨i + 1, by go_num, HN2.out, HBX.out⟩
        case measure => simp [intOf]; omega
    · obtain rfl : i = l.length := by omega
      have HE := Lib.hid (HP.out.over (Nat.le_refl _) s)
      clear hpast hbel
      by_cases h0 : s = 0
      · have b0 : (s == 0) = true := by simpa using h0
        have HV : Hid ((if s = 0 then ((0, 0) : Int × Int) else (2, 0)) = (0, 0)) := Lib.hid (if_pos h0)
        clear h0
        go_wp2_with fail
        go_ret2
        exact ⟨by rw [HE.out, HV.out]; rfl, HB.out⟩
      · have b0 : (s == 0) = false := by simpa using h0
        have HV : Hid ((if s = 0 then ((0, 0) : Int × Int) else (2, 0)) = (2, 0)) := Lib.hid (if_neg h0)
        clear h0
        go_wp2_with fail
        go_ret2
        exact ⟨by rw [HE.out, HV.out]; rfl, HB.out⟩
end Go.Proofs.Ytgjgbelloobdfaa
