/- A contract of the program's own Map. -/
import Derived.Test.YtjblhfhfappmoaaVLasts
import Derived.Test.YtjblhfhfappmoaaClnSort
import Derived.Test.YtjblhfhfappmoaaSortNone
namespace Go.Proofs.Ytjblhfhfappmoaa
open Go.RowKit

/-- Behind the sort of a list of the call's own. -/
theorem sorted_left {w2 wo w3 : World} {g : Nat} (hb : Below w2.heap.size w2 wo) (hg : wo.grownBy w3 (some g)) (hge : w2.heap.size ≤ g) : Below w2.heap.size w2 w3 := hb.grown hg hb.size fun j hj => by cases hj; exact hge
set_option maxHeartbeats 6400000 in
theorem vmap13_any (w : World) (rs : List Rec) (A : Option Addr) (cap : Nat) (h : RecsLie w A rs cap) (hl : rs.length ≤ 1000000000) :
    Calls Try.prog 12 #[.slice A rs.length cap] w (NewRecs w (mapL rs)) := by
  have hcl := h.2.1
  have hcm := h.2.2.1
  unfold maxLen at hcm
  have H := Lib.hid h
  have HL := Lib.hid hl
  have HWF := Lib.hid h.2.2.2
  have HC := Lib.hid (lasts_map w rs A cap h hl)
  clear h hl
  go_enter Try.func12, Try.ntmps12
  go_wp2_with fail
  refine HC.out.mono ?_
  rintro e w2 ⟨rfl, hpl, hb2⟩
  have hs2 : w.heap.size < w2.heap.size := hpl.lt
  have HB2 := Lib.hid hb2
  obtain ⟨f, hf⟩ : ∃ f, (fun k => lastI (fun _ => true) rs k rs.length) = f := ⟨_, rfl⟩
  rw [hf] at hpl
  have HP2 := Lib.hid hpl
  have HF := Lib.hid hf
  clear hpl hb2 HC hf
  go_wp2_with fail
  go_loopw [4, 11] (fun v iv wr => ∃ (i : Nat) (ps : List Rec), iv = .int .i64 i ∧ i ≤ rs.length ∧ ps.length ≤ i ∧ (∀ r ∈ ps, r.wf) ∧ OwnR wr w2.heap.size v ps ∧ Below w2.heap.size w2 wr ∧ ps ++ pickL (rs.drop i) = pickL rs) (fun _ iv _ => rs.length - (intOf iv).toNat)
  case atStart => exact ⟨0, [], rfl, Nat.zero_le _, Nat.zero_le _, (fun _ hr => by cases hr), OwnR.nil, Below.refl _ _, rfl⟩
  case round =>
    generalize wr = wo at *
    obtain ⟨i, ps, rfl, hi, hpi, hpw, hown, hbel, hE⟩ := hrel
    have hll := HL.out
    obtain ⟨B, c, rfl, hlie, hB⟩ := hown.parts hpw
    have HB := Lib.hid hbel
    have HPW := Lib.hid hpw
    have hcc := hlie.2.1
    have hcc2 := hlie.2.2.1
    unfold maxLen at hcc2
    have HNB := Lib.hid hB
    clear hlie hB hpw
    obtain ⟨k0, hk0⟩ : ∃ k, ps.length = k := ⟨_, rfl⟩
    rw [hk0] at hcc hpi hown
    have HO := Lib.hid hown
    rw [hk0]
    have HK := Lib.hid hk0
    have hbs := hbel.size
    clear hk0 hown
    by_cases hlt : i < rs.length
    · rw [pick_drop hlt] at hE
      obtain ⟨b, off, rfl, hbl, hat⟩ := H.out.more hlt
      obtain ⟨a0, a1, a2, a3, a4⟩ := hat.keep (w' := wo) fun j => (HB2.out.cell (p := ⟨b, j, none⟩) hbl ▸ hbel.cell (p := ⟨b, j, none⟩) (by show b < _; omega))
      have HRW := Lib.hid (HWF.out _ (List.getElem_mem hlt))
      have HGL := Lib.hid (pick_last hlt)
      have HF2 : Hid (lastI (fun _ => true) rs rs[i].key rs.length = f rs[i].key) := Lib.hid (congrFun HF.out _)
      rw [HF2.out] at HGL
      obtain ⟨r, hr⟩ : ∃ r, rs[i] = r := ⟨_, rfl⟩
      rw [hr] at a0 a1 a2 a3 a4 hE HRW HGL
      obtain ⟨ro, rt, rk, rv, rd⟩ := r
      dsimp only at a0 a1 a2 a3 a4 HGL hE
      have HLT := Lib.hid hlt
      have hx0 : Below wo.heap.size wo (wo.alloc (.cells #[.int .i64 ro, .int .i64 rt, .string rk, .string rv, .bool rd] 32)) := (Below.refl _ _).alloc (Nat.le_refl _) _
      have hP3 := (HP2.out.below hbel (by omega)).below hx0 (by omega)
      have lk := hP3.look HRW.out.2.2.2.2.1
      obtain ⟨L, hL⟩ : ∃ L, f rk = L := ⟨_, rfl⟩
      rw [hL] at lk HGL
      have HX0 := Lib.hid hx0
      have HO3 : Hid (∀ nq, OwnR ((wo.alloc (.cells #[.int .i64 ro, .int .i64 rt, .string rk, .string rv, .bool rd] 32)).drewN nq) w2.heap.size (.slice B k0 c) ps) := Lib.hid fun nq => (HO.out.alloc _).below (drawn_on (Below.refl _ _) nq)
      have HB3 : Hid (∀ nq, Below w2.heap.size w2 ((wo.alloc (.cells #[.int .i64 ro, .int .i64 rt, .string rk, .string rv, .bool rd] 32)).drewN nq)) := Lib.hid fun nq => (HB.out.trans (HX0.out.mono hbs)).trans (drawn_on (Below.refl _ _) nq)
      clear hr hat hx0 hP3 hL HF2 HX0 hbel
      by_cases hLi : L = i
      · rw [hLi] at lk HGL
        have q1 : ((i : Int) == (i : Int)) = true := by simp
        cases rd with
        | false =>
          have HG : ((rs.drop (i + 1)).any (fun x => decide (x.key = rk)) || false) = false := by rw [HGL.out]; simp
          rw [if_neg (by rw [HG]; simp)] at hE
          have HF2 : Hid ((ps ++ [⟨ro, rt, rk, rv, false⟩]) ++ pickL (rs.drop (i + 1)) = pickL rs) := Lib.hid (by rw [List.append_assoc]; exact hE)
          clear hE HG
          go_wp2_with (at_builtin; refine wpList_append_rec_at rfl (.tmp 27) (.tmp 29) rfl w2.heap.size (.slice B k0 c) ps rfl _ ⟨ro, rt, rk, rv, false⟩ rfl (by first | exact HO3.out 0 | exact HO3.out _) _ rfl (by simp) (by rw [HK.out]; omega) (by simp; omega) ?_; intro v4 w4 hown4 hb4 _ _; have HO4 := Lib.hid hown4; have HB4 := Lib.hid hb4; clear hown4 hb4)
          go_roundw
          case rel => exact ⟨i + 1, ps ++ [⟨ro, rt, rk, rv, false⟩], by go_num, HLT.out, by rw [List.length_append, HK.out, List.length_singleton]; omega, fun x hx => by rcases List.mem_append.mp hx with hx | hx; exact HPW.out x hx; rcases List.mem_singleton.mp hx with rfl; exact HRW.out, HO4.out, by first | exact (HB3.out 0).trans HB4.out | exact (HB3.out _).trans HB4.out, HF2.out⟩
          case measure => simp [intOf]; omega
        | true =>
          have HG : ((rs.drop (i + 1)).any (fun x => decide (x.key = rk)) || true) = true := by rw [HGL.out]; simp
          rw [if_pos (by rw [HG])] at hE
          have HF2 := Lib.hid hE
          clear hE HG
          go_wp2_with fail
          go_roundw
          case rel => exact ⟨i + 1, ps, by go_num, HLT.out, by rw [HK.out]; omega, HPW.out, by first | exact HO3.out 0 | exact HO3.out _, by first | exact HB3.out 0 | exact HB3.out _, HF2.out⟩
          case measure => simp [intOf]; omega
      · have q1 : ((L : Int) == (i : Int)) = false := by simp only [beq_eq_false_iff_ne, ne_eq]; omega
        have HG : ((rs.drop (i + 1)).any (fun x => decide (x.key = rk)) || rd) = true := by rw [HGL.out]; simp [hLi]
        rw [if_pos (by rw [HG])] at hE
        have HF2 := Lib.hid hE
        clear hE HG
        go_wp2_with fail
        go_roundw
        case rel => exact ⟨i + 1, ps, by go_num, HLT.out, by rw [HK.out]; omega, HPW.out, by first | exact HO3.out 0 | exact HO3.out _, by first | exact HB3.out 0 | exact HB3.out _, HF2.out⟩
        case measure => simp [intOf]; omega
    · obtain rfl : i = rs.length := by omega
      have HE : Hid (ps = pickL rs) := Lib.hid (by rw [← hE, List.drop_length]; unfold pickL; rw [List.append_nil])
      clear hE
      rcases B with _ | ⟨g, goff, gspot⟩
      · obtain rfl : c = 0 := HNB.out rfl
        obtain rfl : k0 = 0 := Nat.le_zero.1 hcc
        have HS := Lib.hid (sort_none wo (.func (.func 21) #[] #[]))
        have HM : Hid (mapL rs = []) := Lib.hid (by
          have hpe : ps = [] := List.eq_nil_of_length_eq_zero HK.out
          rw [← pick_sorted (l := rs) (d := []) (by rw [← HE.out, hpe]) List.Pairwise.nil])
        go_wp2_with fail
        refine HS.out.mono ?_
        rintro e w9 ⟨rfl, rfl⟩
        go_wp2
        go_ret
        exact ⟨_, rfl, by rw [HM.out]; exact OwnR.nil, HB2.out.trans (HB.out.mono HB2.out.size)⟩
      · have hown := HO.out
        have HS : Hid (∃ (e1 : goff = 0) (e2 : gspot = none), w2.heap.size ≤ g ∧ Calls Try.prog 20 #[.slice (some ⟨g, 0, none⟩) k0 c, .func (.func 21) #[] #[]] wo (fun e w' => e = .returned (.tuple #[]) ∧
            ∃ l' : List Rec, l'.Perm ps ∧ (l'.Pairwise fun a b => ltS b.key a.key = false) ∧ OwnR w' w2.heap.size (.slice (some ⟨g, 0, none⟩) k0 c) l' ∧ wo.grownBy w' (some g))) := Lib.hid (by
          obtain ⟨e1, e2⟩ : goff = 0 ∧ gspot = none := by
            rcases hown.2 with ⟨h0, _⟩ | ⟨g', cap', cur, hv, _⟩
            · cases h0
            · injection hv with e1; injection e1 with e1; injection e1 with _ e2 e3; exact ⟨e2, e3⟩
          subst e1 e2
          have hk := HK.out
          refine ⟨rfl, rfl, (hown.lt g rfl).1, ?_⟩
          rw [← hk] at hown ⊢
          exact sort_any wo w2.heap.size g c ps hown (by omega))
        obtain ⟨rfl, rfl, hge, hsort⟩ := HS.out
        have HS2 := Lib.hid hsort
        clear hown HS hsort hbel
        go_wp2_with fail
        refine HS2.out.mono ?_
        rintro e w3 ⟨rfl, l', hp', hs', ho', hg'⟩
        have HM : Hid (l' = mapL rs) := Lib.hid (pick_sorted (by rw [← HE.out]; exact hp') hs')
        have HO5 := Lib.hid ho'
        have HB5 := Lib.hid (sorted_left HB.out hg' hge)
        clear hp' hs' ho' hg'
        go_wp2
        go_ret
        exact ⟨_, rfl, by rw [← HM.out]; exact ⟨HO5.out.1, HO5.out.2.imp id fun ⟨g, cap, cur, e, h1, h2⟩ => ⟨g, cap, cur, e, Nat.le_trans HB2.out.size h1, h2⟩⟩, HB2.out.trans (HB5.out.mono HB2.out.size)⟩
end Go.Proofs.Ytjblhfhfappmoaa
