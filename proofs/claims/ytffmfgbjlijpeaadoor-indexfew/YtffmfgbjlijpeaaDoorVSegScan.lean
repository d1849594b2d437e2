/- A contract of the program's own Scan of segments. -/
import Derived.Test.YtffmfgbjlijpeaaDoorVSegFirst
namespace Go.Proofs.YtffmfgbjlijpeaaDoor
open Go.RowKit

/-- What stands in the program's last. -/
def lastI (rs : List Rec) : Int := (lastO rs).getD (-1)
theorem lastI_snoc (rs : List Rec) (r : Rec) : lastI (rs ++ [r]) = r.off := by unfold lastI; rw [lastO_snoc]; rfl
theorem falls_lastI {rs : List Rec} {r : Rec} (h : r.right) : (falls (lastO rs) r.off = true) ↔ r.off ≤ lastI rs := by
  have h0 : 0 ≤ r.off := h.1
  unfold lastI
  cases lastO rs with
  | none => simp [falls]; omega
  | some x => simp [falls]
theorem kept_new {w2 w4 : World} {base : Nat} {v : Value} {rs : List Rec} (ho : OwnR w2 base v rs) (o1 o2 : Obj) (hg : ((w2.alloc o1).alloc o2).grownBy w4 v.ownBlock) : w4.heap[w2.heap.size]? = some o1 := by
  rw [hg.block _ (by simp; omega) (by intro h; have := (ho.lt _ (by first | exact h | exact h.symm)).2; omega), Below.heap_alloc _ _ _ (by simp), heap_alloc_new]
set_option maxHeartbeats 3200000 in
set_option maxRecDepth 4000 in
theorem vsegscan_any (A : Option Addr) (xs : List Int) (c : Nat) (w : World) (hh : Half w) (hl : Lies .u8 w w.heap.size A xs) (hby : IsBytes xs) (hc : xs.length ≤ c) (hcm : c ≤ maxLen) (hxl : xs.length ≤ 549755813888) :
    Calls Tryd.prog 38 #[.slice A xs.length c] w (TellsSeg xs w) := by
  unfold maxLen at hcm
  have h0 := hh.pos
  have HXL := Lib.hid hxl
  have HH := Lib.hid hh
  clear hh
  go_enter Tryd.func38, Tryd.ntmps38
  go_wp2_with fail
  go_loopw [4, 5, 6] (fun v av lv wr => ∃ (rs : List Rec) (k : Nat), av = .int .i64 k ∧ lv = .int .i64 (lastI rs) ∧ k ≤ xs.length ∧ rs.length ≤ k ∧ SegAt xs rs k ∧ OwnR wr w.heap.size v rs ∧ (∀ r ∈ rs, r.right) ∧ Below w.heap.size w wr)
    (fun _ av _ _ => xs.length - (intOf av).toNat)
  case atStart => exact ⟨[], 0, rfl, rfl, Nat.zero_le _, Nat.le_refl _, SegAt.start xs, OwnR.nil, (fun _ h => by cases h), Below.refl _ _⟩
  case round =>
    obtain ⟨rs, k, rfl, rfl, hk, hrk, hat, hown, hgood, hbel⟩ := hrel
    obtain ⟨lv, hlv⟩ : ∃ lv, lastI rs = lv := ⟨_, rfl⟩
    rw [hlv]
    by_cases hlt : k < xs.length
    · obtain ⟨b, off, rfl, hbl, _⟩ := hl.at_ hlt
      have hck : ¬ c = k := by omega
      have hbs := hbel.size
      have hl2 : Lies .u8 wr wr.heap.size (some ⟨b, off + k, none⟩) (xs.drop k) := by
        have := ((hl.below hbel).more hbs).cut (n := k) hc
        rw [if_neg hck] at this
        simpa [add_lit] using this
      have hby2 : IsBytes (xs.drop k) := fun q hq => hby q (List.mem_of_mem_drop hq)
      have hdl : (xs.drop k).length = xs.length - k := List.length_drop ..
      have hf := vfirst_any (some ⟨b, off + k, none⟩) (xs.drop k) (c - k) wr (HH.out.below hbel h0) hl2 hby2 (by omega) (by unfold maxLen; omega)
      have hd0 : xs.drop k ≠ [] := by intro h0; have := congrArg List.length h0; rw [hdl, List.length_nil] at this; omega
      rw [hdl] at hf
      obtain ⟨o, ho⟩ : ∃ o, firstM (xs.drop k) = o := ⟨_, rfl⟩
      rw [ho] at hf
      have HF := Lib.hid hf
      have HO := Lib.hid ho
      have HBY := Lib.hid hby2
      have HD0 := Lib.hid hd0
      have HAT := Lib.hid hat
      have HLE := Lib.hid hrk
      have HGD := Lib.hid hgood
      have HLV := Lib.hid hlv
      clear hf ho hby2 hd0 hat hrk hl2 hdl hlv hgood
      go_wp2_with fail
      refine HF.out.mono ?_
      rintro e' w2 ⟨hres, hbel2⟩
      have HOW := Lib.hid (hown.below hbel2)
      have HB := Lib.hid (hbel.trans (hbel2.mono hbs))
      clear HF hown hbel hbel2 hbs
      rcases hres with ⟨hon, rfl⟩ | ⟨xo, xt, xk, xv, xd, n, hos, rfl⟩
      · have HFIN := Lib.hid (HAT.out.stop (step_first_none (HO.out.trans hon)))
        have HOX := Lib.hid (HOW.out.alloc (.cells #[.int .i64 0, .int .i64 0, .string ⟨#[]⟩, .string ⟨#[]⟩, .bool false] 35))
        have HBX := Lib.hid (HB.out.alloc HB.out.size (.cells #[.int .i64 0, .int .i64 0, .string ⟨#[]⟩, .string ⟨#[]⟩, .bool false] 35))
        have hnew : ∀ j, (w2.alloc (.cells #[.int .i64 0, .int .i64 0, .string ⟨#[]⟩, .string ⟨#[]⟩, .bool false] 35)).cell? ⟨w2.heap.size, j, none⟩ = (#[.int .i64 0, .int .i64 0, .string ⟨#[]⟩, .string ⟨#[]⟩, .bool false] : Array Value)[j]? := fun j => by
          have : (w2.alloc (.cells #[.int .i64 0, .int .i64 0, .string ⟨#[]⟩, .string ⟨#[]⟩, .bool false] 35)).heap[w2.heap.size]? = some (.cells #[.int .i64 0, .int .i64 0, .string ⟨#[]⟩, .string ⟨#[]⟩, .bool false] 35) := by
            show (w2.heap.push _)[w2.heap.size]? = _
            simp
          unfold World.cell?
          rw [this]
          rfl
        have b0 := hnew 0
        simp only [List.getElem?_toArray, List.getElem?_cons_zero] at b0
        clear hnew hon HO HD0 HBY HOW HB
        go_wp2_with fail
        go_ret2
        exact ⟨_, rs, k, rfl, HFIN.out, HOX.out, HGD.out, hk, HLE.out, HBX.out⟩
      · obtain ⟨hrt, hn5, hnl⟩ := first_facts HBY.out (HO.out.trans hos)
        rw [List.length_drop] at hnl
        have HST := Lib.hid (step_first_some (last := lastO rs) HD0.out (HO.out.trans hos))
        have hfl := falls_lastI (rs := rs) hrt
        rw [HLV.out] at hfl
        dsimp only at hfl
        have HOX := Lib.hid (HOW.out.alloc (.cells #[.int .i64 xo, .int .i64 xt, .string xk, .string xv, .bool xd] 35))
        have HBX := Lib.hid (HB.out.alloc HB.out.size (.cells #[.int .i64 xo, .int .i64 xt, .string xk, .string xv, .bool xd] 35))
        have hnew : ∀ j, (w2.alloc (.cells #[.int .i64 xo, .int .i64 xt, .string xk, .string xv, .bool xd] 35)).cell? ⟨w2.heap.size, j, none⟩ = (#[.int .i64 xo, .int .i64 xt, .string xk, .string xv, .bool xd] : Array Value)[j]? := fun j => by
          have : (w2.alloc (.cells #[.int .i64 xo, .int .i64 xt, .string xk, .string xv, .bool xd] 35)).heap[w2.heap.size]? = some (.cells #[.int .i64 xo, .int .i64 xt, .string xk, .string xv, .bool xd] 35) := by
            show (w2.heap.push _)[w2.heap.size]? = _
            simp
          unfold World.cell?
          rw [this]
          rfl
        have b0 := hnew 0
        have b1 := hnew 1
        have b2 := hnew 2
        have b3 := hnew 3
        have b4 := hnew 4
        simp only [List.getElem?_toArray, List.getElem?_cons_zero, List.getElem?_cons_succ] at b0 b1 b2 b3 b4
        have HRT := Lib.hid hrt
        have HN := Lib.hid (show k + n ≤ xs.length by omega)
        have HN5 := Lib.hid hn5
        have HWK : Hid (wrap64 ((k : Int) + (n : Int)) = ((k + n : Nat) : Int)) := Lib.hid (by unfold wrap64; omega)
        have HRB : Hid (rs.length + 1 ≤ 1099511627776) := Lib.hid (by have := HLE.out; omega)
        clear hnew hos HO HD0 HBY HB hrt hn5 hnl
        by_cases hfa : xo ≤ lv
        · have hq : decide (xo ≤ lv) = true := decide_eq_true hfa
          have HFIN := Lib.hid (HAT.out.stop (by rw [HST.out, if_pos (hfl.2 hfa)]))
          clear HST hfl
          go_wp2_with fail
          go_ret2
          exact ⟨_, rs, k, rfl, HFIN.out, HOX.out, HGD.out, hk, HLE.out, HBX.out⟩
        · have hq : decide (xo ≤ lv) = false := decide_eq_false hfa
          have HNX := Lib.hid (HAT.out.next (by rw [HST.out, if_neg (fun h => hfa (hfl.1 h))]))
          clear HST hfl
          obtain ⟨Bo, co, rfl, hlie, _⟩ := HOW.out.parts fun r hr => (HGD.out r hr).wf
          have hlc := hlie.2.1
          have hlm := hlie.2.2.1
          unfold maxLen at hlm
          clear hlie
          have hkn := HN.out
          have hxl2 := HXL.out
          have HSZ : Hid (w2.heap.size + 1 = (w2.alloc (.cells #[.int .i64 xo, .int .i64 xt, .string xk, .string xv, .bool xd] 35)).heap.size) := Lib.hid (by simp)
          have HKN := Lib.hid (fun w4 hg => kept_new (w4 := w4) HOW.out (.cells #[.int .i64 xo, .int .i64 xt, .string xk, .string xv, .bool xd] 35) (.cells #[.int .i64 xo, .int .i64 xt, .string xk, .string xv, .bool xd] 35) hg)
          go_wp2_with (at_builtin; refine wpList_append_rec rfl (.tmp 30) (.tmp 32) rfl w.heap.size _ rs rfl _ ⟨xo, xt, xk, xv, xd⟩ rfl HOX.out (congrArg (fun k => Value.slice (some ⟨k, 0, none⟩) 1 1) HSZ.out) HRB.out HBX.out.size ?_; intro v4 w4 hown4 hb4 hg4 _; have HO4 := Lib.hid hown4; have HB4 := Lib.hid hb4; have hk4 := HKN.out w4 hg4; have e0 : w4.cell? ⟨w2.heap.size, 0, none⟩ = some (.int .i64 xo) := (by simp [World.cell?, hk4]); clear hown4 hb4 hg4 hk4)
          go_roundw
          case rel => exact ⟨rs ++ [⟨xo, xt, xk, xv, xd⟩], k + n, by first | rw [HWK.out] | rfl, by rw [lastI_snoc], HN.out, by have := HLE.out; have := HN5.out; rw [List.length_append, List.length_singleton]; omega, HNX.out, HO4.out, fun q hq => by
            rcases List.mem_append.1 hq with hq | hq
            · exact HGD.out q hq
            · rw [List.mem_singleton.1 hq]; exact HRT.out, HBX.out.trans HB4.out⟩
          case measure => have hn5 := HN5.out; simp [intOf]; omega
    · have hfin := Lib.hid (hat.over (by omega))
      have HO := Lib.hid hown
      have HB := Lib.hid hbel
      have HGD := Lib.hid hgood
      clear hown hbel hgood hat
      go_wp2
      go_ret2
      exact ⟨_, rs, k, rfl, hfin.out, HO.out, HGD.out, hk, hrk, HB.out⟩
end Go.Proofs.YtffmfgbjlijpeaaDoor
