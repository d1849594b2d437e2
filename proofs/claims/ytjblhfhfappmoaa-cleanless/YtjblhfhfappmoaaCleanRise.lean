/- A contract of the statements' own 'rise': records with rising offsets. -/
import Derived.Test.YtjblhfhfappmoaaCleanNum
import Derived.Test.YtjblhfhfappmoaaRecs
namespace Go.Proofs.Ytjblhfhfappmoaa
open Go.RowKit

theorem i64_and3 (y : Int) : bits .and .i64 y 3 = y % 4 := by
  have h7 : (BitVec.ofInt 64 3).toNat = 3 := by decide
  show IntKind.i64.wrap ((BitVec.ofInt 64 y &&& BitVec.ofInt 64 3).toNat : Int) = _
  rw [BitVec.toNat_and, h7, show (3 : Nat) = 2 ^ 2 - 1 from rfl, Nat.and_two_pow_sub_one_eq_mod, BitVec.toNat_ofInt]
  rw [IntWalk.i64_in _ (by omega)]
  omega
def riseL : Int → List Rec → List Int → List Rec
  | a, r :: l, g :: gs => ⟨a + 1 + g % 4, r.time, r.key, r.val, r.dead⟩ :: riseL (a + 1 + g % 4) l gs
  | _, _, _ => []
theorem rise_length : ∀ (a : Int) (l : List Rec) (gs : List Int), l.length ≤ gs.length → (riseL a l gs).length = l.length
  | _, [], _, _ => by simp [riseL]
  | _, _ :: _, [], h => by simp at h
  | a, r :: l, g :: gs, h => by simp only [riseL, List.length_cons]; rw [rise_length _ l gs (by simpa using h)]
theorem rise_over : ∀ (a : Int) (l : List Rec) (gs : List Int), RiseO (riseL a l gs) ∧ ∀ x ∈ riseL a l gs, a < x.off
  | _, [], _ => by simp [riseL, RiseO]
  | _, _ :: _, [] => by simp [riseL, RiseO]
  | a, r :: l, g :: gs => by
    obtain ⟨h1, h2⟩ := rise_over (a + 1 + g % 4) l gs
    unfold riseL
    refine ⟨List.pairwise_cons.mpr ⟨fun x hx => h2 x hx, h1⟩, fun x hx => ?_⟩
    rcases List.mem_cons.mp hx with rfl | hx
    · show a < a + 1 + g % 4
      omega
    · have := h2 x hx
      omega
theorem rise_drop {a : Int} {l : List Rec} {gs : List Int} {i : Nat} (h : i < l.length) (h2 : i < gs.length) :
    riseL a (l.drop i) (gs.drop i) = ⟨a + 1 + gs[i] % 4, l[i].time, l[i].key, l[i].val, l[i].dead⟩ :: riseL (a + 1 + gs[i] % 4) (l.drop (i + 1)) (gs.drop (i + 1)) := by
  rw [List.drop_eq_getElem_cons h, List.drop_eq_getElem_cons h2]
  rfl
theorem rise_wf : ∀ (a : Int) (l : List Rec) (gs : List Int), 0 ≤ a → a + 4 * l.length ≤ 4611686018427387904 → (∀ r ∈ l, r.wf) → ∀ r ∈ riseL a l gs, r.wf
  | _, [], _, _, _, _ => by simp [riseL]
  | _, _ :: _, [], _, _, _ => by simp [riseL]
  | a, r :: l, g :: gs, h0, h1, hw => by
    intro x hx
    unfold riseL at hx
    simp only [List.length_cons] at h1
    rcases List.mem_cons.mp hx with rfl | hx
    · have := hw r List.mem_cons_self
      unfold Rec.wf at this ⊢
      dsimp only
      exact ⟨by omega, by omega, this.2.2⟩
    · exact rise_wf _ l gs (by omega) (by omega) (fun y hy => hw y (List.mem_cons_of_mem _ hy)) x hx
set_option maxHeartbeats 3200000 in
theorem rise_any (w : World) (rs : List Rec) (A : Option Addr) (cap : Nat) (h : RecsLie w A rs cap) (gs : List Int) (A2 : Option Addr) (c2 : Nat) (h2 : Lies .i64 w w.heap.size A2 gs) (hc2 : gs.length ≤ c2) (hc3 : c2 ≤ maxLen) (hlen : rs.length ≤ gs.length) (hl : rs.length ≤ 1000) :
    Calls Try.prog 14 #[.slice A rs.length cap, .slice A2 gs.length c2] w (NewRecs w (riseL 0 rs gs)) := by
  have hcl := h.2.1
  have hcm := h.2.2.1
  unfold maxLen at hcm hc3
  have H := Lib.hid h
  have H2 := Lib.hid h2
  have HWF := Lib.hid h.2.2.2
  clear h h2
  go_enter Try.func14, Try.ntmps14
  go_wp2_with fail
  go_loopw [5, 6, 7] (fun v av iv wr => ∃ (i : Nat) (a : Int) (ps : List Rec), iv = .int .i64 i ∧ av = .int .i64 a ∧ 0 ≤ a ∧ a ≤ 4 * i ∧ i ≤ rs.length ∧ ps.length = i ∧ (∀ r ∈ ps, r.wf) ∧ OwnR wr w.heap.size v ps ∧ Below w.heap.size w wr ∧ ps ++ riseL a (rs.drop i) (gs.drop i) = riseL 0 rs gs) (fun _ _ iv _ => rs.length - (intOf iv).toNat)
  case atStart => exact ⟨0, 0, [], rfl, rfl, Int.le_refl _, Int.le_refl _, Nat.zero_le _, rfl, (fun _ hr => by cases hr), OwnR.nil, Below.refl _ _, rfl⟩
  case round =>
    obtain ⟨i, a, ps, rfl, rfl, ha1, ha2, hi, hpi, hpw, hown, hbel, hE⟩ := hrel
    obtain ⟨B, c, rfl, hlie, hB⟩ := hown.parts hpw
    have HB := Lib.hid hbel
    have HPW := Lib.hid hpw
    have hcc := hlie.2.1
    have hcc2 := hlie.2.2.1
    unfold maxLen at hcc2
    rw [hpi] at hcc hown
    have HO := Lib.hid hown
    clear hlie hB hpw hown
    rw [hpi]
    have HK := Lib.hid hpi
    clear hpi
    by_cases hlt : i < rs.length
    · have hlt2 : i < gs.length := by omega
      rw [rise_drop hlt hlt2] at hE
      obtain ⟨b, off, rfl, hbl, hat⟩ := H.out.more hlt
      obtain ⟨a0, a1, a2, a3, a4⟩ := hat.keep (w' := wr) fun j => hbel.cell hbl
      obtain ⟨b2, o2, rfl, hb2l, hg2⟩ := H2.out.at_ hlt2
      have g0 : wr.cell? ⟨b2, o2 + i, none⟩ = some (.int .i64 gs[i]) := (hbel.cell hb2l).trans hg2
      have g1 : ∀ o, (wr.alloc o).cell? ⟨b2, o2 + i, none⟩ = some (.int .i64 gs[i]) := fun o => (((Below.refl _ wr).alloc (Nat.le_refl _) o).cell (p := ⟨b2, o2 + i, none⟩) (Nat.lt_of_lt_of_le hb2l hbel.size)).trans g0
      have HRW := Lib.hid (HWF.out _ (List.getElem_mem hlt))
      obtain ⟨r, hr⟩ : ∃ r, rs[i] = r := ⟨_, rfl⟩
      rw [hr] at a0 a1 a2 a3 a4 hE HRW
      obtain ⟨y, hy⟩ : ∃ y, gs[i] = y := ⟨_, rfl⟩
      simp only [hy] at g1
      rw [hy] at hE
      clear g0
      obtain ⟨ro, rt, rk, rv, rd⟩ := r
      dsimp only at a0 a1 a2 a3 a4 hE
      have HLT := Lib.hid hlt
      have hbs := hbel.size
      have e1 : IntKind.i64.wrap (a + 1) = a + 1 := (IntWalk.i64_left _).trans (by simp only [wrap64]; omega)
      have e3 : bits .and .i64 y 3 = y % 4 := i64_and3 y
      have e2 : IntKind.i64.wrap (a + 1 + y % 4) = a + 1 + y % 4 := (IntWalk.i64_left _).trans (by simp only [wrap64]; omega)
      obtain ⟨z, hz⟩ : ∃ z, a + 1 + y % 4 = z := ⟨_, rfl⟩
      rw [hz] at e2 hE
      have HZ : Hid (0 ≤ z ∧ z ≤ 4 * ((i : Int) + 1)) := Lib.hid (by omega)
      have HF : Hid ((ps ++ [⟨z, rt, rk, rv, rd⟩]) ++ riseL z (rs.drop (i + 1)) (gs.drop (i + 1)) = riseL 0 rs gs) := Lib.hid (by rw [List.append_assoc]; exact hE)
      clear hr hat hbel hE hbl hb2l hg2 hy
      go_wp2_with (at_builtin; refine wpList_append_rec rfl (.tmp 29) (.tmp 31) rfl w.heap.size (.slice B i c) ps rfl (wr.alloc (.cells #[.int .i64 z, .int .i64 rt, .string rk, .string rv, .bool rd] 32)) ⟨z, rt, rk, rv, rd⟩ rfl (OwnR.alloc HO.out _) (Eq.trans (b := Value.slice (some ⟨wr.heap.size + 1, 0, none⟩) 1 1) rfl (by simp)) (by rw [HK.out]; omega) (by simp; omega) ?_; intro v4 w4 hown4 hb4 _ _; have HO4 := Lib.hid hown4; have HB4 := Lib.hid hb4; clear hown4 hb4)
      go_roundw
      case rel => exact ⟨i + 1, z, ps ++ [⟨z, rt, rk, rv, rd⟩], by go_num, rfl, HZ.out.1, by have := HZ.out.2; omega, HLT.out, by rw [List.length_append, HK.out, List.length_singleton], fun x hx => by rcases List.mem_append.mp hx with hx | hx; exact HPW.out x hx; rcases List.mem_singleton.mp hx with rfl; exact ⟨by have := HZ.out; dsimp only; omega, by have := HZ.out; have := HLT.out; dsimp only; omega, HRW.out.2.2⟩, HO4.out, ((HB.out.alloc hbs _).trans HB4.out), HF.out⟩
      case measure => simp [intOf]; omega
    · obtain rfl : i = rs.length := by omega
      have HE : Hid (ps = riseL 0 rs gs) := Lib.hid (by rw [← hE, List.drop_length]; cases hq : gs.drop rs.length <;> simp [riseL])
      clear hE
      go_wp2_with fail
      go_ret
      exact ⟨_, rfl, by rw [← HE.out]; exact HO.out, HB.out⟩
end Go.Proofs.Ytjblhfhfappmoaa
