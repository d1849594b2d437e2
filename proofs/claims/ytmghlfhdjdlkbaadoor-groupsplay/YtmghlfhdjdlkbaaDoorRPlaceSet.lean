/- The document's own table of groups: what Set leaves. -/
import Derived.Test.YtmghlfhdjdlkbaaDoorPlaceRows
import Derived.Test.YtmghlfhdjdlkbaaDoorRefValid
import Derived.Laws.Rows
namespace Go.Proofs.YtmghlfhdjdlkbaaDoor
open Go.RowKit

/-- The rest of a list that lies somewhere, as a slice has it. -/
theorem places_cut {w : World} {S : Nat → Prop} {A : Option Addr} {xs : List PlaceM} {cap n : Nat} (h : RowsLie placeRep w S A xs cap) (hn : n ≤ xs.length) :
    RowsLie placeRep w S (if cap = n then A else A.map (·.add (n * 2))) (xs.drop n) (cap - n) := by
  refine ⟨fun hne => ?_, by rw [List.length_drop]; have := h.2.1; omega, by have := h.2.2; omega⟩
  have hlt : n < xs.length := by
    rcases Nat.lt_or_ge n xs.length with h1 | h1
    · exact h1
    · exact absurd (List.drop_eq_nil_of_le h1) hne
  obtain ⟨b, off, rfl, hb, hs, hc⟩ := h.1 (by rintro rfl; simp at hlt)
  have hcl := h.2.1
  rw [if_neg (by omega)]
  refine ⟨b, off + n * 2, by simp [add_lit], hb, hs, fun i hi => ?_⟩
  rw [List.length_drop] at hi
  have := hc (n + i) (by omega)
  rw [List.getElem_drop]
  have e : off + (n + i) * placeRep.n = off + n * 2 + i * placeRep.n := by show off + (n + i) * 2 = off + n * 2 + i * 2; omega
  rw [e] at this
  exact this
theorem place_info : (Tryd.prog.info? 48).map (fun i => (i.zero, i.size, decide (i.bytes ≤ 1024))) = some (some (.agg #[.string ⟨#[]⟩, .int .i64 0]), 2, true) := by kernel_rfl
/-- What a call on a table leaves: its rows, and that nothing else was written. -/
def GLeft (base : Nat) (T : Nat → Prop) (w w' : World) (q : Nat) (l : List PlaceM) : Prop := ∃ T', (∀ i, T' i → Grow T w w' i) ∧ Keep T w w' ∧ RPl base T' w' q l
theorem gleft_same {base q : Nat} {T : Nat → Prop} {w : World} {l : List PlaceM} (h : RPl base T w q l) : GLeft base T w w q l := ⟨T, fun _ h => .inl h, Keep.refl _ _, h⟩
theorem gleft_stored {base q : Nat} {T : Nat → Prop} {w w3 : World} {l l' : List PlaceM} (h : RPl base T w q l) (ht : PlacesM l') {A : Option Addr} {L cap : Nat} (hb : Below w.heap.size w w3) (ho : OwnG 48 w3 w.heap.size (.slice A L cap) l') :
    GLeft base T w (w3.setCell ⟨q, 0, none⟩ (.slice A L cap)) q l' := by
  obtain ⟨hW, hq, _, A0, cap0, hb0, _, _⟩ := h
  have hql := (hW.2 q hq).2
  have hq3 : w3.heap[q]? = some (.cells #[.slice A0 l.length cap0] 32) := (hb.block q hql).trans hb0
  have hlt := ho.lt
  obtain ⟨A2, c2, e, hl, hA⟩ := ho.parts
  injection e with e1 e2 e3
  subst e1 e2 e3
  have hne : ∀ b, (Value.slice A l'.length cap).ownBlock = some b → b ≠ q := fun b hb e => by have := (hlt b hb).1; omega
  have hs4 : (w3.setCell ⟨q, 0, none⟩ (.slice A l'.length cap)).heap.size = w3.heap.size := by simp [World.setCell]
  refine ⟨fun i => i = q ∨ (Value.slice A l'.length cap).ownBlock = some i, fun i hi => ?_, (Keep.of_below hb).setCell (.inl hq) _, ⟨by rw [hs4]; exact Nat.le_trans hW.1 hb.size, fun i hi => ?_⟩, .inl rfl, ht, A, cap, ?_, hA, ?_⟩
  · rcases hi with rfl | hi
    · exact .inl hq
    · exact .inr (by rw [hs4]; exact hlt i hi)
  · rw [hs4]
    rcases hi with rfl | hi
    · exact ⟨(hW.2 _ hq).1, Nat.lt_of_lt_of_le hql hb.size⟩
    · exact ⟨Nat.le_trans hW.1 (hlt i hi).1, (hlt i hi).2⟩
  · exact (heap_setCell_same _ _ _ _ _ _ hq3).trans rfl
  · refine (hl.keep (by rw [hs4]; exact Nat.le_refl _) fun b hs => heap_setCell_other _ _ b _ ?_).mono fun b hs => ?_
    · rcases hs with hs | hs
      · exact hs.elim
      · exact hne b hs
    · rcases hs with hs | hs
      · exact hs.elim
      · exact ⟨.inr hs, hne b hs⟩
set_option maxHeartbeats 3200000 in
theorem rgset_any {base q : Nat} {T : Nat → Prop} {w : World} {l : List PlaceM} (h : RPl base T w q l) (x : PlaceM) (hx : x.wf) :
    Calls Tryd.prog 8 #[.pointer (some ⟨q, 0, none⟩), .string x.name, .int .i64 x.off] w (fun e w' => e = .returned (.int .i64 (setN l x).2) ∧ GLeft base T w w' q (setN l x).1) := by
  have HH := Lib.hid h
  obtain ⟨hW, hq, ht, A, cap, hb, hA, hl⟩ := h
  have c0 : w.cell? ⟨q, 0, none⟩ = some (.slice A l.length cap) := by unfold World.cell?; rw [hb]; rfl
  have hql := cell_block_lt c0
  have hfew := ht.few
  have hcl := hl.2.1
  have hcm := hl.2.2
  unfold maxLen at hcm
  have HL := Lib.hid hl
  have HA := Lib.hid hA
  have HQ := Lib.hid hb
  have HTM := Lib.hid ht
  have HTS := Lib.hid (ht.set hx)
  obtain ⟨xn, xo⟩ := x
  have HTW : Hid (∀ b, T b → b < w.heap.size) := Lib.hid fun b hb => (hW.2 b hb).2
  have hxs : xn.size ≤ maxLen := hx.1
  clear hl hb ht hA hx hW
  dsimp only
  have HV := Lib.hid (refvalid_any xn w hxs)
  cases hv : validS xn with
  | false =>
    have HS : Hid (setN l ⟨xn, xo⟩ = (l, 6)) := Lib.hid (if_pos hv)
    rw [hv] at HV
    clear hv
    go_enter Tryd.func8, Tryd.ntmps8
    go_wp2_with (go_at_call 16; refine HV.out.mono ?_; rintro e w9 ⟨rfl, rfl⟩)
    go_ret
    exact ⟨by rw [HS.out]; rfl, by rw [HS.out]; exact gleft_same HH.out⟩
  | true =>
  have HVD := Lib.hid hv
  rw [hv] at HV
  clear hv
  go_enter Tryd.func8, Tryd.ntmps8
  go_wp2_with (go_at_call 16; refine HV.out.mono ?_; rintro e w9 ⟨rfl, rfl⟩)
  clear HV
  go_loopw [7] (fun iv wr => ∃ k : Nat, iv = .int .i64 k ∧ AheadN l xn k ∧ wr = w) (fun iv _ => l.length - (intOf iv).toNat)
  case atStart => exact ⟨0, rfl, AheadN.zero l xn, rfl⟩
  case round =>
    obtain ⟨k, rfl, hah, hwr⟩ := hrel
    have hwr' := hwr.symm
    clear hwr
    subst hwr'
    have HAH := Lib.hid hah
    have hk := hah.1
    clear hah
    by_cases hlt : k < l.length
    · obtain ⟨b, off, rfl, hb0, _, g0, g1⟩ := PlacesLie.at_ HL.out hlt
      have HNX := Lib.hid (fun hp => HAH.out.next hlt hp)
      have HOV := Lib.hid (fun hp => putN_over (x := ⟨xn, xo⟩) HAH.out hlt hp)
      have HHO := Lib.hid (fun hp => hasN_over (n := xn) hlt hp)
      have HBT := Lib.hid (fun (hp : ltS l[k].name xn = false ∧ l[k].name ≠ xn) => putN_between (x := ⟨xn, xo⟩) HAH.out fun _ => hp)
      have HHB := Lib.hid (fun (hp : ltS l[k].name xn = false ∧ l[k].name ≠ xn) => hasN_between (n := xn) HTM.out.sorted HAH.out fun _ => hp)
      obtain ⟨m, hm⟩ : ∃ m, l[k] = m := ⟨_, rfl⟩
      rw [hm] at g0 g1 HNX HOV HHO HBT HHB
      obtain ⟨mp, mo⟩ := m
      dsimp only at g0 g1 HNX HOV HHO HBT HHB
      clear hm g1
      by_cases hp : ltS mp xn = true
      · have d1 : Op.bytesLess mp.toList xn.toList = true := hp
        have HN2 := Lib.hid (HNX.out hp)
        clear HNX HOV HHO HBT HHB hp
        go_wp2_with fail
        go_roundw
        case rel => exact ⟨k + 1, by go_num, HN2.out, trivial⟩
        case measure => simp [intOf]; omega
      · have hp' : ltS mp xn = false := by simpa using hp
        have d1 : Op.bytesLess mp.toList xn.toList = false := hp'
        by_cases he : mp = xn
        · have b1 : (mp.toList == xn.toList) = true := by rw [name_beq]; exact decide_eq_true he
          have HS : Hid (setN l ⟨xn, xo⟩ = (l.take k ++ ⟨xn, xo⟩ :: l.drop (k + 1), 0)) := Lib.hid (by
            unfold setN
            rw [if_neg (by rw [HVD.out]; decide), if_neg (by rw [HHO.out he]; simp), HOV.out he])
          clear HNX HOV HHO HBT HHB hp hp' he
          have hnt : (k + 1) ≤ l.length := by omega
          have hnc : (k + 1) ≤ cap := by omega
          go_wp2_with (at_builtin; refine wpList_append_places rfl (.const (.slice none 0 0)) (.tmp 67) 30 48 rfl Tryd.underlying30 place_info w.heap.size (.slice none 0 0) [] rfl OwnG.nil _ (some ⟨b, off, none⟩) k cap (l.take k) rfl (by rw [List.length_take]; omega) (HL.out.take k) HA.out (by rw [List.length_take]; simp; omega) (Nat.le_refl _) ?_; intro v1 w1 hown1 hb1 _; rw [List.nil_append] at hown1; have HO1 := Lib.hid hown1; have HB1 := Lib.hid hb1; have hz1 := hb1.size; clear hown1 hb1; refine Hid.out ?_)
          refine Lib.hid ?_
          go_wp2_with (at_builtin; refine Hid.out ?_)
          refine Lib.hid ?_
          refine wpList_append_one (R := placeRep) (S := noGB) rfl (.tmp 68) (.tmp 72) 30 48 rfl Tryd.underlying30 (.agg #[.string ⟨#[]⟩, .int .i64 0]) place_info rfl w.heap.size v1 (l.take k) rfl w1 ⟨xn, xo⟩ [.string xn, .int .i64 xo] rfl rfl HO1.out w1.heap.size rfl rfl (by rw [List.length_take]; omega) hz1 ?_
          intro v2 w2 hown2 hb2 _ _
          have HO2 := Lib.hid hown2
          have HB2 := Lib.hid (HB1.out.trans hb2)
          have hz2 := HB2.out.size
          clear hown2 hb2
          have c2 := (HB2.out.cell (p := ⟨q, 0, none⟩) hql).trans c0
          have hL2 : RowsLie placeRep w2 (fun b => T b ∧ b ≠ q) (some ⟨b, off, none⟩) l cap := HL.out.below HB2.out fun b hb => HTW.out b hb.1
          have HCT := Lib.hid (places_cut hL2 hnt)
          have HQ2 := Lib.hid ((HB2.out.block q hql).trans HQ.out)
          clear hL2
          by_cases hcn : cap = k + 1
          · have hX := HCT.out
            rw [if_pos hcn, show cap - (k + 1) = 0 by omega] at hX
            have HX := Lib.hid hX
            clear hX
            go_wp2_with (at_builtin; refine wpList_append_places rfl (.tmp 75) (.tmp 81) 30 48 rfl Tryd.underlying30 place_info w.heap.size v2 _ rfl HO2.out _ (some ⟨b, off, none⟩) _ 0 (l.drop (k + 1)) rfl (by rw [List.length_drop]) HX.out (fun e => by cases e) (by rw [List.length_append, List.length_take]; simp; omega) hz2 ?_; intro v3 w3 hown3 hb3 _; obtain ⟨Z, hZ⟩ : ∃ Z, Z = l.take k ++ [⟨xn, xo⟩] ++ (l.drop (k + 1)) := ⟨_, rfl⟩; rw [← hZ] at hown3; have HZ := Lib.hid hZ; clear hZ; have hb03 := HB2.out.trans hb3; have hq3 := (hb03.block q hql).trans HQ.out; have f3 := frozen_of_row w3 q 0 _ _ hq3; have k3 := (hb03.cell (p := ⟨q, 0, none⟩) hql).trans c0; obtain ⟨A3, c3', hv3, _, _⟩ := OwnS.parts hown3; have HO3 := Lib.hid hown3; have HB3 := Lib.hid hb03; subst hv3; clear hown3 hb3 hb03 hq3; refine Hid.out ?_)
            refine Lib.hid ?_
            go_wp2_with fail
            go_ret
            refine ⟨by rw [HS.out]; rfl, ?_⟩
            have hT := HTS.out
            rw [HS.out] at hT ⊢
            rw [show (l.take k ++ ⟨xn, xo⟩ :: l.drop (k + 1), (0 : Int)).1 = Z from by rw [HZ.out]; simp] at hT ⊢
            exact gleft_stored HH.out hT HB3.out HO3.out
          · have hX := HCT.out
            rw [if_neg hcn] at hX
            have HX : Hid (RowsLie placeRep w2 (fun b => T b ∧ b ≠ q) (some ⟨b, off + (k + 1) * 2, none⟩) (l.drop (k + 1)) (cap - (k + 1))) := Lib.hid (by simpa [add_lit] using hX)
            clear hX
            go_wp2_with (at_builtin; refine wpList_append_places rfl (.tmp 75) (.tmp 81) 30 48 rfl Tryd.underlying30 place_info w.heap.size v2 _ rfl HO2.out _ (some ⟨b, off + (k + 1) * 2, none⟩) _ (cap - (k + 1)) (l.drop (k + 1)) rfl (by rw [List.length_drop]) HX.out (fun e => by cases e) (by rw [List.length_append, List.length_take]; simp; omega) hz2 ?_; intro v3 w3 hown3 hb3 _; obtain ⟨Z, hZ⟩ : ∃ Z, Z = l.take k ++ [⟨xn, xo⟩] ++ (l.drop (k + 1)) := ⟨_, rfl⟩; rw [← hZ] at hown3; have HZ := Lib.hid hZ; clear hZ; have hb03 := HB2.out.trans hb3; have hq3 := (hb03.block q hql).trans HQ.out; have f3 := frozen_of_row w3 q 0 _ _ hq3; have k3 := (hb03.cell (p := ⟨q, 0, none⟩) hql).trans c0; obtain ⟨A3, c3', hv3, _, _⟩ := OwnS.parts hown3; have HO3 := Lib.hid hown3; have HB3 := Lib.hid hb03; subst hv3; clear hown3 hb3 hb03 hq3; refine Hid.out ?_)
            refine Lib.hid ?_
            go_wp2_with fail
            go_ret
            refine ⟨by rw [HS.out]; rfl, ?_⟩
            have hT := HTS.out
            rw [HS.out] at hT ⊢
            rw [show (l.take k ++ ⟨xn, xo⟩ :: l.drop (k + 1), (0 : Int)).1 = Z from by rw [HZ.out]; simp] at hT ⊢
            exact gleft_stored HH.out hT HB3.out HO3.out
        · have b1 : (mp.toList == xn.toList) = false := by rw [name_beq]; exact decide_eq_false he
          have hgt : ltS mp xn = false ∧ mp ≠ xn := ⟨hp', he⟩
          by_cases h100 : 100 ≤ l.length
          · have d100 : decide ((100 : Int) ≤ (l.length : Int)) = true := decide_eq_true (by omega)
            have d100b : decide (100 ≤ l.length) = true := decide_eq_true h100
            have HS : Hid (setN l ⟨xn, xo⟩ = (l, 7)) := Lib.hid (by unfold setN; rw [if_neg (by rw [HVD.out]; decide), if_pos ⟨HHB.out hgt, h100⟩])
            clear HNX HOV HHO HBT HHB hp hp' he hgt h100
            go_wp2_with fail
            go_ret
            exact ⟨by rw [HS.out]; rfl, by rw [HS.out]; exact gleft_same HH.out⟩
          · have d100 : decide ((100 : Int) ≤ (l.length : Int)) = false := decide_eq_false (by omega)
            have d100b : decide (100 ≤ l.length) = false := decide_eq_false h100
            have HS : Hid (setN l ⟨xn, xo⟩ = (l.take k ++ ⟨xn, xo⟩ :: l.drop k, 0)) := Lib.hid (by
              unfold setN
              rw [if_neg (by rw [HVD.out]; decide), if_neg fun h => h100 h.2, HBT.out hgt])
            clear HNX HOV HHO HBT HHB hp hp' he hgt h100
            have hnt : k ≤ l.length := by omega
            have hnc : k ≤ cap := by omega
            go_wp2_with (at_builtin; refine wpList_append_places rfl (.const (.slice none 0 0)) (.tmp 67) 30 48 rfl Tryd.underlying30 place_info w.heap.size (.slice none 0 0) [] rfl OwnG.nil _ (some ⟨b, off, none⟩) k cap (l.take k) rfl (by rw [List.length_take]; omega) (HL.out.take k) HA.out (by rw [List.length_take]; simp; omega) (Nat.le_refl _) ?_; intro v1 w1 hown1 hb1 _; rw [List.nil_append] at hown1; have HO1 := Lib.hid hown1; have HB1 := Lib.hid hb1; have hz1 := hb1.size; clear hown1 hb1; refine Hid.out ?_)
            refine Lib.hid ?_
            go_wp2_with (at_builtin; refine Hid.out ?_)
            refine Lib.hid ?_
            refine wpList_append_one (R := placeRep) (S := noGB) rfl (.tmp 68) (.tmp 72) 30 48 rfl Tryd.underlying30 (.agg #[.string ⟨#[]⟩, .int .i64 0]) place_info rfl w.heap.size v1 (l.take k) rfl w1 ⟨xn, xo⟩ [.string xn, .int .i64 xo] rfl rfl HO1.out w1.heap.size rfl rfl (by rw [List.length_take]; omega) hz1 ?_
            intro v2 w2 hown2 hb2 _ _
            have HO2 := Lib.hid hown2
            have HB2 := Lib.hid (HB1.out.trans hb2)
            have hz2 := HB2.out.size
            clear hown2 hb2
            have c2 := (HB2.out.cell (p := ⟨q, 0, none⟩) hql).trans c0
            have hL2 : RowsLie placeRep w2 (fun b => T b ∧ b ≠ q) (some ⟨b, off, none⟩) l cap := HL.out.below HB2.out fun b hb => HTW.out b hb.1
            have HCT := Lib.hid (places_cut hL2 hnt)
            have HQ2 := Lib.hid ((HB2.out.block q hql).trans HQ.out)
            clear hL2
            have hcn : ¬ cap = k := by omega
            have hX := HCT.out
            rw [if_neg hcn] at hX
            have HX : Hid (RowsLie placeRep w2 (fun b => T b ∧ b ≠ q) (some ⟨b, off + k * 2, none⟩) (l.drop k) (cap - k)) := Lib.hid (by simpa [add_lit] using hX)
            clear hX
            go_wp2_with (at_builtin; refine wpList_append_places rfl (.tmp 75) (.tmp 81) 30 48 rfl Tryd.underlying30 place_info w.heap.size v2 _ rfl HO2.out _ (some ⟨b, off + k * 2, none⟩) _ (cap - k) (l.drop k) rfl (by rw [List.length_drop]) HX.out (fun e => by cases e) (by rw [List.length_append, List.length_take]; simp; omega) hz2 ?_; intro v3 w3 hown3 hb3 _; obtain ⟨Z, hZ⟩ : ∃ Z, Z = l.take k ++ [⟨xn, xo⟩] ++ (l.drop k) := ⟨_, rfl⟩; rw [← hZ] at hown3; have HZ := Lib.hid hZ; clear hZ; have hb03 := HB2.out.trans hb3; have hq3 := (hb03.block q hql).trans HQ.out; have f3 := frozen_of_row w3 q 0 _ _ hq3; have k3 := (hb03.cell (p := ⟨q, 0, none⟩) hql).trans c0; obtain ⟨A3, c3', hv3, _, _⟩ := OwnS.parts hown3; have HO3 := Lib.hid hown3; have HB3 := Lib.hid hb03; subst hv3; clear hown3 hb3 hb03 hq3; refine Hid.out ?_)
            refine Lib.hid ?_
            go_wp2_with fail
            go_ret
            refine ⟨by rw [HS.out]; rfl, ?_⟩
            have hT := HTS.out
            rw [HS.out] at hT ⊢
            rw [show (l.take k ++ ⟨xn, xo⟩ :: l.drop k, (0 : Int)).1 = Z from by rw [HZ.out]; simp] at hT ⊢
            exact gleft_stored HH.out hT HB3.out HO3.out
    · obtain rfl : k = l.length := by omega
      have HBT : Hid (putN ⟨xn, xo⟩ l = l.take l.length ++ ⟨xn, xo⟩ :: l.drop l.length) := Lib.hid (putN_between (x := ⟨xn, xo⟩) HAH.out fun h => absurd h (Nat.lt_irrefl _))
      have HHB : Hid (hasN l xn = false) := Lib.hid (hasN_between (n := xn) HTM.out.sorted HAH.out fun h => absurd h (Nat.lt_irrefl _))
      by_cases h100 : 100 ≤ l.length
      · have d100 : decide ((100 : Int) ≤ (l.length : Int)) = true := decide_eq_true (by omega)
        have d100b : decide (100 ≤ l.length) = true := decide_eq_true h100
        have HS : Hid (setN l ⟨xn, xo⟩ = (l, 7)) := Lib.hid (by unfold setN; rw [if_neg (by rw [HVD.out]; decide), if_pos ⟨HHB.out, h100⟩])
        clear HBT HHB h100
        go_wp2_with fail
        go_ret
        exact ⟨by rw [HS.out]; rfl, by rw [HS.out]; exact gleft_same HH.out⟩
      · have d100 : decide ((100 : Int) ≤ (l.length : Int)) = false := decide_eq_false (by omega)
        have d100b : decide (100 ≤ l.length) = false := decide_eq_false h100
        have HS : Hid (setN l ⟨xn, xo⟩ = (l.take l.length ++ ⟨xn, xo⟩ :: l.drop l.length, 0)) := Lib.hid (by
          unfold setN
          rw [if_neg (by rw [HVD.out]; decide), if_neg fun h => h100 h.2, HBT.out])
        clear HBT HHB h100
        have hnt : l.length ≤ l.length := by omega
        have hnc : l.length ≤ cap := by omega
        go_wp2_with (at_builtin; refine wpList_append_places rfl (.const (.slice none 0 0)) (.tmp 67) 30 48 rfl Tryd.underlying30 place_info w.heap.size (.slice none 0 0) [] rfl OwnG.nil _ A l.length cap (l.take l.length) rfl (by rw [List.length_take]; omega) (HL.out.take l.length) HA.out (by rw [List.length_take]; simp; omega) (Nat.le_refl _) ?_; intro v1 w1 hown1 hb1 _; rw [List.nil_append] at hown1; have HO1 := Lib.hid hown1; have HB1 := Lib.hid hb1; have hz1 := hb1.size; clear hown1 hb1; refine Hid.out ?_)
        refine Lib.hid ?_
        go_wp2_with (at_builtin; refine Hid.out ?_)
        refine Lib.hid ?_
        refine wpList_append_one (R := placeRep) (S := noGB) rfl (.tmp 68) (.tmp 72) 30 48 rfl Tryd.underlying30 (.agg #[.string ⟨#[]⟩, .int .i64 0]) place_info rfl w.heap.size v1 (l.take l.length) rfl w1 ⟨xn, xo⟩ [.string xn, .int .i64 xo] rfl rfl HO1.out w1.heap.size rfl rfl (by rw [List.length_take]; omega) hz1 ?_
        intro v2 w2 hown2 hb2 _ _
        have HO2 := Lib.hid hown2
        have HB2 := Lib.hid (HB1.out.trans hb2)
        have hz2 := HB2.out.size
        clear hown2 hb2
        have c2 := (HB2.out.cell (p := ⟨q, 0, none⟩) hql).trans c0
        have hL2 : RowsLie placeRep w2 (fun b => T b ∧ b ≠ q) A l cap := HL.out.below HB2.out fun b hb => HTW.out b hb.1
        have HCT := Lib.hid (places_cut hL2 hnt)
        have HQ2 := Lib.hid ((HB2.out.block q hql).trans HQ.out)
        clear hL2
        by_cases hcn : cap = l.length
        · have hA0 := HA.out
          go_wp2_with (at_builtin; refine wpList_append_places rfl (.tmp 75) (.tmp 81) 30 48 rfl Tryd.underlying30 place_info w.heap.size v2 _ rfl HO2.out noGB _ _ _ [] rfl (by simp) (RowsLie.nil (by simp [maxLen])) (fun _ => rfl) (by rw [List.length_append, List.length_take]; simp; omega) hz2 ?_; intro v3 w3 hown3 hb3 _; obtain ⟨Z, hZ⟩ : ∃ Z, Z = l.take l.length ++ [⟨xn, xo⟩] ++ [] := ⟨_, rfl⟩; rw [← hZ] at hown3; have HZ := Lib.hid hZ; clear hZ; have hb03 := HB2.out.trans hb3; have hq3 := (hb03.block q hql).trans HQ.out; have f3 := frozen_of_row w3 q 0 _ _ hq3; have k3 := (hb03.cell (p := ⟨q, 0, none⟩) hql).trans c0; obtain ⟨A3, c3', hv3, _, _⟩ := OwnS.parts hown3; have HO3 := Lib.hid hown3; have HB3 := Lib.hid hb03; subst hv3; clear hown3 hb3 hb03 hq3; refine Hid.out ?_)
          refine Lib.hid ?_
          go_wp2_with fail
          go_ret
          refine ⟨by rw [HS.out]; rfl, ?_⟩
          have hT := HTS.out
          rw [HS.out] at hT ⊢
          rw [show (l.take l.length ++ ⟨xn, xo⟩ :: l.drop l.length, (0 : Int)).1 = Z from by rw [HZ.out]; simp] at hT ⊢
          exact gleft_stored HH.out hT HB3.out HO3.out
        · have hA0 := HA.out
          have hA1 : A.map (·.add (l.length * 2)) = none → cap - l.length = 0 := fun e => by
            rw [hA0 (by cases A with | none => rfl | some _ => cases e)]
            exact Nat.zero_sub _
          go_wp2_with (at_builtin; refine wpList_append_places rfl (.tmp 75) (.tmp 81) 30 48 rfl Tryd.underlying30 place_info w.heap.size v2 _ rfl HO2.out noGB _ _ _ [] rfl (by simp) (RowsLie.nil (by unfold maxLen; omega)) hA1 (by rw [List.length_append, List.length_take]; simp; omega) hz2 ?_; intro v3 w3 hown3 hb3 _; obtain ⟨Z, hZ⟩ : ∃ Z, Z = l.take l.length ++ [⟨xn, xo⟩] ++ [] := ⟨_, rfl⟩; rw [← hZ] at hown3; have HZ := Lib.hid hZ; clear hZ; have hb03 := HB2.out.trans hb3; have hq3 := (hb03.block q hql).trans HQ.out; have f3 := frozen_of_row w3 q 0 _ _ hq3; have k3 := (hb03.cell (p := ⟨q, 0, none⟩) hql).trans c0; obtain ⟨A3, c3', hv3, _, _⟩ := OwnS.parts hown3; have HO3 := Lib.hid hown3; have HB3 := Lib.hid hb03; subst hv3; clear hown3 hb3 hb03 hq3; refine Hid.out ?_)
          refine Lib.hid ?_
          go_wp2_with fail
          go_ret
          refine ⟨by rw [HS.out]; rfl, ?_⟩
          have hT := HTS.out
          rw [HS.out] at hT ⊢
          rw [show (l.take l.length ++ ⟨xn, xo⟩ :: l.drop l.length, (0 : Int)).1 = Z from by rw [HZ.out]; simp] at hT ⊢
          exact gleft_stored HH.out hT HB3.out HO3.out
end Go.Proofs.YtmghlfhdjdlkbaaDoor
