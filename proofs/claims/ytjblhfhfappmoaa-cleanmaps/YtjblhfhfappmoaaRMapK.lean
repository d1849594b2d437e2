/- A contract of the document's own Map. -/
import Derived.Test.YtjblhfhfappmoaaRKeep
import Derived.Test.YtjblhfhfappmoaaMapNum
import Derived.Test.YtjblhfhfappmoaaRecsRest
import Derived.Deep.Onto
namespace Go.Proofs.Ytjblhfhfappmoaa
open Go.RowKit

/-- While the next rows are made: what was there before lies as it did, the record at hand too, and the new rows are the call's own. -/
def MapSt (wo w1 : World) (O : Obj) (v : Value) (l : List Rec) : Prop := Below wo.heap.size wo w1 ∧ w1.heap[wo.heap.size]? = some O ∧ ∃ g, wo.heap.size < g ∧ g ≤ w1.heap.size ∧ OwnR w1 g v l
theorem MapSt.first {wo W w1 : World} {O : Obj} {v : Value} {l : List Rec} (h : Below wo.heap.size wo W ∧ W.heap[wo.heap.size]? = some O) (hb : Below W.heap.size W w1) (ho : OwnR w1 W.heap.size v l) : MapSt wo w1 O v l := by
  have hlt := (Array.getElem?_eq_some_iff.1 h.2).1
  exact ⟨h.1.trans (hb.mono h.1.size), (hb.block _ hlt).trans h.2, _, hlt, hb.size, ho⟩
theorem MapSt.next {wo w1 w2 : World} {O : Obj} {v2 : Value} {l2 : List Rec} {g : Nat} (h1 : Below wo.heap.size wo w1) (h2 : w1.heap[wo.heap.size]? = some O) (hg : wo.heap.size < g) (hg2 : g ≤ w1.heap.size) (hb : Below g w1 w2) (ho : OwnR w2 g v2 l2) : MapSt wo w2 O v2 l2 :=
  ⟨h1.trans (hb.mono (Nat.le_of_lt hg)), (hb.block _ hg).trans h2, g, hg, Nat.le_trans hg2 hb.size, ho⟩
set_option maxHeartbeats 12800000 in
theorem refmap_any (w : World) (rs : List Rec) (A : Option Addr) (cap : Nat) (h : RecsLie w A rs cap) (hl : rs.length ≤ 1000000000) :
    Calls Try.prog 13 #[.slice A rs.length cap] w (NewRecs w (mapL rs)) := by
  have hcl := h.2.1
  have hcm := h.2.2.1
  unfold maxLen at hcm
  have H := Lib.hid h
  have HL := Lib.hid hl
  have HWF := Lib.hid h.2.2.2
  clear h hl
  go_enter Try.func13, Try.ntmps13
  go_wp2_with fail
  go_loopw [3, 4] (fun v iv wr => ∃ i : Nat, iv = .int .i64 i ∧ i ≤ rs.length ∧ OwnR wr w.heap.size v (mapL (rs.take i)) ∧ Below w.heap.size w wr) (fun _ iv _ => rs.length - (intOf iv).toNat)
  case atStart => exact ⟨0, rfl, Nat.zero_le _, OwnR.nil, Below.refl _ _⟩
  case round =>
    generalize wr = wo at *
    obtain ⟨i, rfl, hi, hown, hbel⟩ := hrel
    have hll := HL.out
    have hpi := map_length (rs := rs) i hi
    have HNX := Lib.hid (fun h => map_next (rs := rs) (i := i) h)
    have hpw : ∀ r ∈ mapL (rs.take i), r.wf := fun r hr => HWF.out r (map_from r hr)
    have HEND : Hid (i = rs.length → mapL (rs.take i) = mapL rs) := Lib.hid (fun e => by rw [e, List.take_length])
    obtain ⟨m, hm⟩ : ∃ m, mapL (rs.take i) = m := ⟨_, rfl⟩
    rw [hm] at hown hpi hpw HNX HEND
    clear hm
    obtain ⟨B, c, rfl, hlie, hB⟩ := hown.parts hpw
    have HB := Lib.hid hbel
    have HPW := Lib.hid hpw
    have HLM := Lib.hid hlie
    have HBN := Lib.hid hB
    have hcc := hlie.2.1
    have hcc2 := hlie.2.2.1
    unfold maxLen at hcc2
    have HO := Lib.hid hown
    clear hown hlie hB hpw
    by_cases hlt : i < rs.length
    · obtain ⟨b, off, rfl, hbl, hat⟩ := H.out.more hlt
      obtain ⟨a0, a1, a2, a3, a4⟩ := hat.keep (w' := wo) fun j => hbel.cell hbl
      have HN1 := Lib.hid (HNX.out hlt)
      obtain ⟨r, hr⟩ : ∃ r, rs[i] = r := ⟨_, rfl⟩
      rw [hr] at a0 a1 a2 a3 a4 HN1
      obtain ⟨ro, rt, rk, rv, rd⟩ := r
      dsimp only at a0 a1 a2 a3 a4
      have HLT := Lib.hid hlt
      have hbs := hbel.size
      have HSH := Lib.hid (fun (k : Nat) => step_here (r := ⟨ro, rt, rk, rv, rd⟩) (l := m) (k := k))
      have HSB := Lib.hid (fun (k : Nat) => step_between (r := ⟨ro, rt, rk, rv, rd⟩) (l := m) (k := k))
      dsimp only at HSH HSB
      have hb0 : Below wo.heap.size wo (wo.alloc (.cells #[.int .i64 ro, .int .i64 rt, .string rk, .string rv, .bool rd] 32)) := (Below.refl _ _).alloc (Nat.le_refl _) _
      have hw0 : (wo.alloc (.cells #[.int .i64 ro, .int .i64 rt, .string rk, .string rv, .bool rd] 32)).heap[wo.heap.size]? = some (.cells #[.int .i64 ro, .int .i64 rt, .string rk, .string rv, .bool rd] 32) := heap_alloc_new wo _
      have HW0 := Lib.hid (And.intro hb0 hw0)
      clear hr hat hbel hbl hb0 hw0 HNX HEND
      go_wp2_with fail
      go_loopw [6] (fun kv wx => ∃ (k : Nat), kv = .int .i64 k ∧ AheadK m rk k ∧ Below wo.heap.size wo wx ∧ wx.heap[wo.heap.size]? = some (.cells #[.int .i64 ro, .int .i64 rt, .string rk, .string rv, .bool rd] 32)) (fun kv _ => m.length - (intOf kv).toNat)
      case atStart => exact ⟨0, rfl, AheadK.zero _ _, HW0.out.1, HW0.out.2⟩
      case round =>
        obtain ⟨k, rfl, hah, hbx, hox⟩ := hrel
        have hk := hah.1
        obtain ⟨c0, c1, c2, c3, c4⟩ := rec_load (r := ⟨ro, rt, rk, rv, rd⟩) hox
        dsimp only at c0 c1 c2 c3 c4
        have HBX := Lib.hid (And.intro hbx hox)
        have HAH := Lib.hid hah
        clear hah hox HW0 a0 a1 a2 a3 a4
        have HR : ∀ nq, Below wo.heap.size wo (wr.drewN nq) ∧ (wr.drewN nq).heap[wo.heap.size]? = some (.cells #[.int .i64 ro, .int .i64 rt, .string rk, .string rv, .bool rd] 32) := fun nq => ⟨below_more HBX.out.1 nq, HBX.out.2⟩
        have HR := Lib.hid HR
        by_cases hkl : k < m.length
        · have e1 : decide ((k : Int) < (m.length : Int)) = true := decide_eq_true (by omega)
          obtain ⟨b2, o2, rfl, hbl2, hat2⟩ := HLM.out.more hkl
          obtain ⟨d0, d1, d2, d3, d4⟩ := hat2.keep (w' := wr) fun j => hbx.cell hbl2
          have HA1 := Lib.hid (fun h => HAH.out.next hkl h)
          have HS1 := Lib.hid (fun h => HSH.out k HAH.out hkl h)
          have HS2 := Lib.hid (fun (h : ltS m[k].key rk = false ∧ m[k].key ≠ rk) => HSB.out k HAH.out fun _ => h)
          obtain ⟨u, hu⟩ : ∃ u, m[k] = u := ⟨_, rfl⟩
          rw [hu] at d0 d1 d2 d3 d4 HA1 HS1 HS2
          obtain ⟨uo, ut, uk, uv, ud⟩ := u
          dsimp only at d0 d1 d2 d3 d4 HA1 HS1 HS2
          clear hu hat2 hbl2 hbx HAH HSH HSB
          by_cases hlk : ltS uk rk = true
          · have s1 : Op.bytesLess uk.toList rk.toList = true := hlk
            have HN2 := Lib.hid (HA1.out hlk)
            clear HS1 HS2 HA1
            go_wp2_with fail
            go_quiet (fail)
            go_wp2
            go_roundw
            case rel => exact ⟨k + 1, by go_num, HN2.out, (HR.out nq).1, (HR.out nq).2⟩
            case measure => simp [intOf]; omega
          · have hlk : ltS uk rk = false := by simpa using hlk
            have s1 : Op.bytesLess uk.toList rk.toList = false := hlk
            by_cases hkk : uk = rk
            · subst hkk
              have s2 : (uk.toList == uk.toList) = true := by simp
              have HSS := Lib.hid (HS1.out rfl)
              clear HS1 HS2 HA1 hlk
              go_wp2_with fail
              go_quiet (fail)
              go_wp2
              go_quiet (fail)
              go_wp2_with (at_builtin; refine wpList_append_recs_any rfl (.const (.slice none 0 0)) (.tmp 54) rfl _ (.slice none 0 0) [] rfl OwnR.nil (some ⟨b2, o2, none⟩) k c (m.take k) rfl (by rw [List.length_take]; omega) ((HLM.out.below (HR.out _).1 (Nat.le_refl _)).front k) HBN.out (by rw [List.length_take]; simp; omega) (Nat.le_refl _) ?_; intro v1 w1 hown1 hb1 _; rw [List.nil_append] at hown1; have HS1 := Lib.hid (MapSt.first (HR.out _) hb1 hown1); clear hown1 hb1; refine Hid.out ?_)
              refine Lib.hid ?_
              obtain ⟨hx1, hy1, g1, hg1, hg2, ho1⟩ := HS1.out
              obtain ⟨f0, f1, f2, f3, f4⟩ := rec_load (r := ⟨ro, rt, uk, rv, rd⟩) hy1
              dsimp only at f0 f1 f2 f3 f4
              have HO1 := Lib.hid ho1
              clear ho1 c0 c1 c2 c3 c4 HS1
              cases rd with
              | true =>
                have HQ : Hid (mapL (rs.take (i + 1)) = m.take k ++ m.drop (k + 1)) := Lib.hid (by rw [HN1.out, HSS.out]; rfl)
                have HCT := Lib.hid (recs_cut (HLM.out.below hx1 (Nat.le_refl _)) (show (k + 1) ≤ m.length by omega))
                by_cases hcn : c = (k + 1)
                · have hX := HCT.out
                  rw [if_pos hcn, show c - (k + 1) = 0 by omega] at hX
                  have HX := Lib.hid hX
                  clear hX
                  go_wp2_with (at_builtin; refine wpList_append_recs_any rfl (.tmp 63) (.tmp 66) rfl g1 v1 (m.take k) rfl HO1.out (some ⟨b2, o2, none⟩) _ 0 (m.drop (k + 1)) rfl (by rw [List.length_drop]) HX.out (fun e => by cases e) (by simp; omega) hg2 ?_; intro v3 w3 hown3 hb3 _; have HS3 := Lib.hid (MapSt.next hx1 hy1 hg1 hg2 hb3 hown3); clear hown3 hb3)
                  go_roundw
                  case rel => exact ⟨i + 1, by go_num, HLT.out, by rw [HQ.out]; obtain ⟨_, _, g, hg, _, ho⟩ := HS3.out; exact World.ownsRow.mono ho (Nat.le_trans hbs (Nat.le_of_lt hg)), HB.out.trans (HS3.out.1.mono hbs)⟩
                  case measure => simp [intOf]; omega
                · have hX := HCT.out
                  rw [if_neg hcn] at hX
                  have HX : Hid (RecsLie w1 (some ⟨b2, o2 + (k + 1) * 5, none⟩) (m.drop (k + 1)) (c - (k + 1))) := Lib.hid (by simpa [add_lit] using hX)
                  clear hX
                  go_wp2_with (at_builtin; refine wpList_append_recs_any rfl (.tmp 63) (.tmp 66) rfl g1 v1 (m.take k) rfl HO1.out (some ⟨b2, o2 + (k + 1) * 5, none⟩) _ (c - (k + 1)) (m.drop (k + 1)) rfl (by rw [List.length_drop]) HX.out (fun e => by cases e) (by simp; omega) hg2 ?_; intro v3 w3 hown3 hb3 _; have HS3 := Lib.hid (MapSt.next hx1 hy1 hg1 hg2 hb3 hown3); clear hown3 hb3)
                  go_roundw
                  case rel => exact ⟨i + 1, by go_num, HLT.out, by rw [HQ.out]; obtain ⟨_, _, g, hg, _, ho⟩ := HS3.out; exact World.ownsRow.mono ho (Nat.le_trans hbs (Nat.le_of_lt hg)), HB.out.trans (HS3.out.1.mono hbs)⟩
                  case measure => simp [intOf]; omega
              | false =>
                have HQ : Hid (mapL (rs.take (i + 1)) = (m.take k ++ [⟨ro, rt, uk, rv, false⟩]) ++ m.drop (k + 1)) := Lib.hid (by rw [HN1.out, HSS.out, List.append_assoc]; rfl)
                go_wp2_with (at_builtin; refine wpList_append_rec rfl (.tmp 59) (.tmp 61) rfl g1 v1 (m.take k) rfl w1 ⟨ro, rt, uk, rv, false⟩ rfl HO1.out rfl (by simp; omega) hg2 ?_; intro v2 w2 hown2 hb2 _ _; have HS2 := Lib.hid (MapSt.next hx1 hy1 hg1 hg2 hb2 hown2); clear hown2 hb2; refine Hid.out ?_)
                refine Lib.hid ?_
                obtain ⟨hx2, hy2, g2, hg3, hg4, ho2⟩ := HS2.out
                have HO2 := Lib.hid ho2
                clear ho2
                have HCT := Lib.hid (recs_cut (HLM.out.below hx2 (Nat.le_refl _)) (show (k + 1) ≤ m.length by omega))
                by_cases hcn : c = (k + 1)
                · have hX := HCT.out
                  rw [if_pos hcn, show c - (k + 1) = 0 by omega] at hX
                  have HX := Lib.hid hX
                  clear hX
                  go_wp2_with (at_builtin; refine wpList_append_recs_any rfl (.tmp 63) (.tmp 66) rfl g2 v2 (m.take k ++ [⟨ro, rt, uk, rv, false⟩]) rfl HO2.out (some ⟨b2, o2, none⟩) _ 0 (m.drop (k + 1)) rfl (by rw [List.length_drop]) HX.out (fun e => by cases e) (by simp; omega) hg4 ?_; intro v3 w3 hown3 hb3 _; have HS3 := Lib.hid (MapSt.next hx2 hy2 hg3 hg4 hb3 hown3); clear hown3 hb3)
                  go_roundw
                  case rel => exact ⟨i + 1, by go_num, HLT.out, by rw [HQ.out]; obtain ⟨_, _, g, hg, _, ho⟩ := HS3.out; exact World.ownsRow.mono ho (Nat.le_trans hbs (Nat.le_of_lt hg)), HB.out.trans (HS3.out.1.mono hbs)⟩
                  case measure => simp [intOf]; omega
                · have hX := HCT.out
                  rw [if_neg hcn] at hX
                  have HX : Hid (RecsLie w2 (some ⟨b2, o2 + (k + 1) * 5, none⟩) (m.drop (k + 1)) (c - (k + 1))) := Lib.hid (by simpa [add_lit] using hX)
                  clear hX
                  go_wp2_with (at_builtin; refine wpList_append_recs_any rfl (.tmp 63) (.tmp 66) rfl g2 v2 (m.take k ++ [⟨ro, rt, uk, rv, false⟩]) rfl HO2.out (some ⟨b2, o2 + (k + 1) * 5, none⟩) _ (c - (k + 1)) (m.drop (k + 1)) rfl (by rw [List.length_drop]) HX.out (fun e => by cases e) (by simp; omega) hg4 ?_; intro v3 w3 hown3 hb3 _; have HS3 := Lib.hid (MapSt.next hx2 hy2 hg3 hg4 hb3 hown3); clear hown3 hb3)
                  go_roundw
                  case rel => exact ⟨i + 1, by go_num, HLT.out, by rw [HQ.out]; obtain ⟨_, _, g, hg, _, ho⟩ := HS3.out; exact World.ownsRow.mono ho (Nat.le_trans hbs (Nat.le_of_lt hg)), HB.out.trans (HS3.out.1.mono hbs)⟩
                  case measure => simp [intOf]; omega
            · have s2 : (uk.toList == rk.toList) = false := text_ne hkk
              have HSS := Lib.hid (HS2.out ⟨hlk, hkk⟩)
              clear HS1 HS2 HA1 hlk
              go_wp2_with fail
              go_quiet (fail)
              go_wp2
              go_quiet (fail)
              go_wp2_with (at_builtin; refine wpList_append_recs_any rfl (.const (.slice none 0 0)) (.tmp 54) rfl _ (.slice none 0 0) [] rfl OwnR.nil (some ⟨b2, o2, none⟩) k c (m.take k) rfl (by rw [List.length_take]; omega) ((HLM.out.below (HR.out _).1 (Nat.le_refl _)).front k) HBN.out (by rw [List.length_take]; simp; omega) (Nat.le_refl _) ?_; intro v1 w1 hown1 hb1 _; rw [List.nil_append] at hown1; have HS1 := Lib.hid (MapSt.first (HR.out _) hb1 hown1); clear hown1 hb1; refine Hid.out ?_)
              refine Lib.hid ?_
              obtain ⟨hx1, hy1, g1, hg1, hg2, ho1⟩ := HS1.out
              obtain ⟨f0, f1, f2, f3, f4⟩ := rec_load (r := ⟨ro, rt, rk, rv, rd⟩) hy1
              dsimp only at f0 f1 f2 f3 f4
              have HO1 := Lib.hid ho1
              clear ho1 c0 c1 c2 c3 c4 HS1
              cases rd with
              | true =>
                have HQ : Hid (mapL (rs.take (i + 1)) = m.take k ++ m.drop k) := Lib.hid (by rw [HN1.out, HSS.out]; rfl)
                have HCT := Lib.hid (recs_cut (HLM.out.below hx1 (Nat.le_refl _)) (show k ≤ m.length by omega))
                have hcn : ¬ c = k := by omega
                have hX := HCT.out
                rw [if_neg hcn] at hX
                have HX : Hid (RecsLie w1 (some ⟨b2, o2 + k * 5, none⟩) (m.drop k) (c - k)) := Lib.hid (by simpa [add_lit] using hX)
                clear hX
                go_wp2_with (at_builtin; refine wpList_append_recs_any rfl (.tmp 63) (.tmp 66) rfl g1 v1 (m.take k) rfl HO1.out (some ⟨b2, o2 + k * 5, none⟩) _ (c - k) (m.drop k) rfl (by rw [List.length_drop]) HX.out (fun e => by cases e) (by simp; omega) hg2 ?_; intro v3 w3 hown3 hb3 _; have HS3 := Lib.hid (MapSt.next hx1 hy1 hg1 hg2 hb3 hown3); clear hown3 hb3)
                go_roundw
                case rel => exact ⟨i + 1, by go_num, HLT.out, by rw [HQ.out]; obtain ⟨_, _, g, hg, _, ho⟩ := HS3.out; exact World.ownsRow.mono ho (Nat.le_trans hbs (Nat.le_of_lt hg)), HB.out.trans (HS3.out.1.mono hbs)⟩
                case measure => simp [intOf]; omega
              | false =>
                have HQ : Hid (mapL (rs.take (i + 1)) = (m.take k ++ [⟨ro, rt, rk, rv, false⟩]) ++ m.drop k) := Lib.hid (by rw [HN1.out, HSS.out, List.append_assoc]; rfl)
                go_wp2_with (at_builtin; refine wpList_append_rec rfl (.tmp 59) (.tmp 61) rfl g1 v1 (m.take k) rfl w1 ⟨ro, rt, rk, rv, false⟩ rfl HO1.out rfl (by simp; omega) hg2 ?_; intro v2 w2 hown2 hb2 _ _; have HS2 := Lib.hid (MapSt.next hx1 hy1 hg1 hg2 hb2 hown2); clear hown2 hb2; refine Hid.out ?_)
                refine Lib.hid ?_
                obtain ⟨hx2, hy2, g2, hg3, hg4, ho2⟩ := HS2.out
                have HO2 := Lib.hid ho2
                clear ho2
                have HCT := Lib.hid (recs_cut (HLM.out.below hx2 (Nat.le_refl _)) (show k ≤ m.length by omega))
                have hcn : ¬ c = k := by omega
                have hX := HCT.out
                rw [if_neg hcn] at hX
                have HX : Hid (RecsLie w2 (some ⟨b2, o2 + k * 5, none⟩) (m.drop k) (c - k)) := Lib.hid (by simpa [add_lit] using hX)
                clear hX
                go_wp2_with (at_builtin; refine wpList_append_recs_any rfl (.tmp 63) (.tmp 66) rfl g2 v2 (m.take k ++ [⟨ro, rt, rk, rv, false⟩]) rfl HO2.out (some ⟨b2, o2 + k * 5, none⟩) _ (c - k) (m.drop k) rfl (by rw [List.length_drop]) HX.out (fun e => by cases e) (by simp; omega) hg4 ?_; intro v3 w3 hown3 hb3 _; have HS3 := Lib.hid (MapSt.next hx2 hy2 hg3 hg4 hb3 hown3); clear hown3 hb3)
                go_roundw
                case rel => exact ⟨i + 1, by go_num, HLT.out, by rw [HQ.out]; obtain ⟨_, _, g, hg, _, ho⟩ := HS3.out; exact World.ownsRow.mono ho (Nat.le_trans hbs (Nat.le_of_lt hg)), HB.out.trans (HS3.out.1.mono hbs)⟩
                case measure => simp [intOf]; omega
        · have e1 : decide ((k : Int) < (m.length : Int)) = false := decide_eq_false (by omega)
          obtain rfl : k = m.length := by omega
          have HSS := Lib.hid (HSB.out m.length HAH.out fun h => absurd h (Nat.lt_irrefl _))
          clear HSH HSB HAH hbx
          rcases B with _ | ⟨bb, ob, eb⟩
          · obtain rfl : c = 0 := HBN.out rfl
            obtain rfl : m = [] := List.eq_nil_of_length_eq_zero (by omega)
            go_wp2_with fail
            go_quiet (fail)
            go_wp2
            go_quiet (fail)
            cases rd with
            | true =>
              have HQ : Hid (mapL (rs.take (i + 1)) = []) := Lib.hid (by rw [HN1.out, HSS.out]; rfl)
              go_wp2_with fail
              go_roundw
              case rel => exact ⟨i + 1, by go_num, HLT.out, by rw [HQ.out]; exact OwnR.nil, HB.out.trans ((HR.out _).1.mono hbs)⟩
              case measure => simp [intOf]; omega
            | false =>
              have HQ : Hid (mapL (rs.take (i + 1)) = [⟨ro, rt, rk, rv, false⟩]) := Lib.hid (by rw [HN1.out, HSS.out]; rfl)
              go_wp2_with (at_builtin; refine wpList_append_rec rfl (.tmp 59) (.tmp 61) rfl _ (.slice none 0 0) [] rfl _ ⟨ro, rt, rk, rv, false⟩ rfl OwnR.nil rfl (by simp) (Nat.le_refl _) ?_; intro v2 w2 hown2 hb2 _ _; have HS2 := Lib.hid (MapSt.first (HR.out _) hb2 hown2); clear hown2 hb2; refine Hid.out ?_)
              refine Lib.hid ?_
              obtain ⟨hx2, hy2, g2, hg3, hg4, ho2⟩ := HS2.out
              have HO2 := Lib.hid ho2
              clear ho2
              go_wp2_with (at_builtin; refine wpList_append_recs_any rfl (.tmp 63) (.tmp 66) rfl g2 v2 _ rfl HO2.out none _ 0 [] rfl rfl ⟨fun h => absurd rfl h, Nat.zero_le _, by unfold maxLen; omega, fun _ h => by cases h⟩ (fun _ => rfl) (by simp) hg4 ?_; intro v3 w3 hown3 hb3 _; have HS3 := Lib.hid (MapSt.next hx2 hy2 hg3 hg4 hb3 hown3); clear hown3 hb3)
              go_roundw
              case rel => exact ⟨i + 1, by go_num, HLT.out, by rw [HQ.out]; obtain ⟨_, _, g, hg, _, ho⟩ := HS3.out; exact World.ownsRow.mono ho (Nat.le_trans hbs (Nat.le_of_lt hg)), HB.out.trans (HS3.out.1.mono hbs)⟩
              case measure => simp [intOf]; omega
          · go_wp2_with fail
            go_quiet (fail)
            go_wp2
            go_quiet (fail)
            go_wp2_with (at_builtin; refine wpList_append_recs_any rfl (.const (.slice none 0 0)) (.tmp 54) rfl _ (.slice none 0 0) [] rfl OwnR.nil (some ⟨bb, ob, eb⟩) m.length c (m.take m.length) rfl (by rw [List.length_take]; omega) ((HLM.out.below (HR.out _).1 (Nat.le_refl _)).front m.length) HBN.out (by rw [List.length_take]; simp; omega) (Nat.le_refl _) ?_; intro v1 w1 hown1 hb1 _; rw [List.nil_append] at hown1; have HS1 := Lib.hid (MapSt.first (HR.out _) hb1 hown1); clear hown1 hb1; refine Hid.out ?_)
            refine Lib.hid ?_
            obtain ⟨hx1, hy1, g1, hg1, hg2, ho1⟩ := HS1.out
            obtain ⟨f0, f1, f2, f3, f4⟩ := rec_load (r := ⟨ro, rt, rk, rv, rd⟩) hy1
            dsimp only at f0 f1 f2 f3 f4
            have HO1 := Lib.hid ho1
            clear ho1 c0 c1 c2 c3 c4 HS1
            cases rd with
            | true =>
              have HQ : Hid (mapL (rs.take (i + 1)) = m.take m.length ++ m.drop m.length) := Lib.hid (by rw [HN1.out, HSS.out]; rfl)
              by_cases hcn : c = m.length
              · go_wp2_with (at_builtin; refine wpList_append_recs_any rfl (.tmp 63) (.tmp 66) rfl g1 v1 (m.take m.length) rfl HO1.out _ _ _ [] rfl (by simp) ⟨fun h => absurd rfl h, Nat.zero_le _, by unfold maxLen; omega, fun _ h => by cases h⟩ (fun e => by cases e) (by simp; omega) hg2 ?_; intro v3 w3 hown3 hb3 _; have HS3 := Lib.hid (MapSt.next hx1 hy1 hg1 hg2 hb3 hown3); clear hown3 hb3)
                go_roundw
                case rel => exact ⟨i + 1, by go_num, HLT.out, by rw [HQ.out, List.drop_length]; obtain ⟨_, _, g, hg, _, ho⟩ := HS3.out; exact World.ownsRow.mono ho (Nat.le_trans hbs (Nat.le_of_lt hg)), HB.out.trans (HS3.out.1.mono hbs)⟩
                case measure => simp [intOf]; omega
              · go_wp2_with (at_builtin; refine wpList_append_recs_any rfl (.tmp 63) (.tmp 66) rfl g1 v1 (m.take m.length) rfl HO1.out _ _ _ [] rfl (by simp) ⟨fun h => absurd rfl h, Nat.zero_le _, by unfold maxLen; omega, fun _ h => by cases h⟩ (fun e => by cases e) (by simp; omega) hg2 ?_; intro v3 w3 hown3 hb3 _; have HS3 := Lib.hid (MapSt.next hx1 hy1 hg1 hg2 hb3 hown3); clear hown3 hb3)
                go_roundw
                case rel => exact ⟨i + 1, by go_num, HLT.out, by rw [HQ.out, List.drop_length]; obtain ⟨_, _, g, hg, _, ho⟩ := HS3.out; exact World.ownsRow.mono ho (Nat.le_trans hbs (Nat.le_of_lt hg)), HB.out.trans (HS3.out.1.mono hbs)⟩
                case measure => simp [intOf]; omega
            | false =>
              have HQ : Hid (mapL (rs.take (i + 1)) = (m.take m.length ++ [⟨ro, rt, rk, rv, false⟩]) ++ m.drop m.length) := Lib.hid (by rw [HN1.out, HSS.out, List.append_assoc]; rfl)
              go_wp2_with (at_builtin; refine wpList_append_rec rfl (.tmp 59) (.tmp 61) rfl g1 v1 (m.take m.length) rfl w1 ⟨ro, rt, rk, rv, false⟩ rfl HO1.out rfl (by simp; omega) hg2 ?_; intro v2 w2 hown2 hb2 _ _; have HS2 := Lib.hid (MapSt.next hx1 hy1 hg1 hg2 hb2 hown2); clear hown2 hb2; refine Hid.out ?_)
              refine Lib.hid ?_
              obtain ⟨hx2, hy2, g2, hg3, hg4, ho2⟩ := HS2.out
              have HO2 := Lib.hid ho2
              clear ho2
              by_cases hcn : c = m.length
              · go_wp2_with (at_builtin; refine wpList_append_recs_any rfl (.tmp 63) (.tmp 66) rfl g2 v2 (m.take m.length ++ [⟨ro, rt, rk, rv, false⟩]) rfl HO2.out _ _ _ [] rfl (by simp) ⟨fun h => absurd rfl h, Nat.zero_le _, by unfold maxLen; omega, fun _ h => by cases h⟩ (fun e => by cases e) (by simp; omega) hg4 ?_; intro v3 w3 hown3 hb3 _; have HS3 := Lib.hid (MapSt.next hx2 hy2 hg3 hg4 hb3 hown3); clear hown3 hb3)
                go_roundw
                case rel => exact ⟨i + 1, by go_num, HLT.out, by rw [HQ.out, List.drop_length]; obtain ⟨_, _, g, hg, _, ho⟩ := HS3.out; exact World.ownsRow.mono ho (Nat.le_trans hbs (Nat.le_of_lt hg)), HB.out.trans (HS3.out.1.mono hbs)⟩
                case measure => simp [intOf]; omega
              · go_wp2_with (at_builtin; refine wpList_append_recs_any rfl (.tmp 63) (.tmp 66) rfl g2 v2 (m.take m.length ++ [⟨ro, rt, rk, rv, false⟩]) rfl HO2.out _ _ _ [] rfl (by simp) ⟨fun h => absurd rfl h, Nat.zero_le _, by unfold maxLen; omega, fun _ h => by cases h⟩ (fun e => by cases e) (by simp; omega) hg4 ?_; intro v3 w3 hown3 hb3 _; have HS3 := Lib.hid (MapSt.next hx2 hy2 hg3 hg4 hb3 hown3); clear hown3 hb3)
                go_roundw
                case rel => exact ⟨i + 1, by go_num, HLT.out, by rw [HQ.out, List.drop_length]; obtain ⟨_, _, g, hg, _, ho⟩ := HS3.out; exact World.ownsRow.mono ho (Nat.le_trans hbs (Nat.le_of_lt hg)), HB.out.trans (HS3.out.1.mono hbs)⟩
                case measure => simp [intOf]; omega
    · obtain rfl : i = rs.length := by omega
      have HE := Lib.hid (HEND.out rfl)
      clear HNX
      go_wp2_with fail
      go_ret
      exact ⟨_, rfl, by rw [← HE.out]; exact HO.out, HB.out⟩
end Go.Proofs.Ytjblhfhfappmoaa
