/- A contract of the document's own Crash: the walk. -/
import Derived.Test.YtefjbefmmmllbaaDoorRDCrash
import Derived.Test.YtefjbefmmmllbaaDoorAppRun
import Derived.StillTailTactics
namespace Go.Proofs.YtefjbefmmmllbaaDoor
open Go.RowKit

section
variable {base : Nat} {S : Nat → Prop} {w : World} {p : Nat} {room : Int} {fs : List FileV}
abbrev fileBox (nm : ByteArray) (bv : Value) (lo : Nat) : Obj := .cells #[.string nm, bv, .int .i64 (lo : Int)] 74
/-- The box of a file, behind calls that have made new blocks alone. -/
theorem box_at {wr w2 : World} {nm : ByteArray} {bv : Value} {lo : Nat} (hb : Below (wr.alloc (fileBox nm bv lo)).heap.size (wr.alloc (fileBox nm bv lo)) w2) : w2.heap[wr.heap.size]? = some (.cells #[.string nm, bv, .int .i64 (lo : Int)] 74 (0, 0)) := by
  rw [hb.block _ (by simp)]
  show (wr.heap.push _)[wr.heap.size]? = _
  simp
theorem cells3 {W : World} {g : Nat} {a b c : Value} {t : TypeId} (h : W.heap[g]? = some (.cells #[a, b, c] t (0, 0))) : W.cell? ⟨g, 0, none⟩ = some a ∧ W.cell? ⟨g, 1, none⟩ = some b ∧ W.cell? ⟨g, 2, none⟩ = some c ∧ ∀ j, W.frozen? ⟨g, j, none⟩ = false := by
  refine ⟨?_, ?_, ?_, fun j => ?_⟩
  · unfold World.cell?; rw [h]; rfl
  · unfold World.cell?; rw [h]; rfl
  · unfold World.cell?; rw [h]; rfl
  · simp [World.frozen?, h]
/-- The box with its bytes and its count stored anew. -/
theorem box_stored {wr w2 W : World} {nm : ByteArray} {bv v : Value} {lo : Nat} {xs : List Int} {T : Nat → Prop} (hb : Below wr.heap.size wr w2) (h : w2.heap[wr.heap.size]? = some (.cells #[.string nm, bv, .int .i64 (lo : Int)] 74 (0, 0))) (hv : SlIn T w2 v xs)
    (hW : W = (w2.setCell ⟨wr.heap.size, 1, none⟩ v).setCell ⟨wr.heap.size, 2, none⟩ (.int .i64 0)) :
    W.heap[wr.heap.size]? = some (.cells #[.string nm, v, .int .i64 0] 74 (0, 0)) ∧ Below wr.heap.size wr W ∧ SlIn T W v xs ∧ W.heap.size = w2.heap.size := by
  have h1 : (w2.setCell ⟨wr.heap.size, 1, none⟩ v).heap[wr.heap.size]? = some (.cells #[.string nm, v, .int .i64 (lo : Int)] 74 (0, 0)) := by
    rw [heap_setCell_same w2 _ 1 _ _ _ h]; rfl
  have h2 : W.heap[wr.heap.size]? = some (.cells #[.string nm, v, .int .i64 0] 74 (0, 0)) := by
    rw [hW, heap_setCell_same _ _ 2 _ _ _ h1]; rfl
  refine ⟨h2, ?_, ?_, by rw [hW]; simp⟩
  · rw [hW]
    exact (hb.setCell (p := ⟨wr.heap.size, 1, none⟩) (Nat.le_refl _) _).setCell (p := ⟨wr.heap.size, 2, none⟩) (Nat.le_refl _) _
  · refine hv.written h (by decide) fun i hne hi => ?_
    rw [hW, heap_setCell_other _ _ _ _ hne, heap_setCell_other _ _ _ _ hne]
theorem crash_end {L : List FileM} {keep : List Int} {wr : World} {i q : Nat} {fi : List FileV} (h0 : RDisk base S w p room fs) (hC : RCrashing base S w p room L keep wr i fi q) (hi : i < fi.length) (hlo : fi[i].1.loose ≠ 0) {g c : Nat} (hrow : RowAt (Grow S w wr) wr p room fi g c) {w2 : World} {v : Value} {bs : List Int}
    (hb : Below (wr.alloc (fileBox fi[i].1.name fi[i].2 fi[i].1.loose)).heap.size (wr.alloc (fileBox fi[i].1.name fi[i].2 fi[i].1.loose)) w2) (ho : Own .u8 5 w2 (wr.alloc (fileBox fi[i].1.name fi[i].2 fi[i].1.loose)).heap.size v bs) (hbs : bs = (crashF fi[i].1 ((keep.drop q).headD 0)).b) :
    (w2.cell? ⟨wr.heap.size, 1, none⟩ = some fi[i].2 ∧ w2.cell? ⟨wr.heap.size, 2, none⟩ = some (.int .i64 (fi[i].1.loose : Int)) ∧ ∀ j, w2.frozen? ⟨wr.heap.size, j, none⟩ = false) ∧
    ∀ W1, W1 = (w2.setCell ⟨wr.heap.size, 1, none⟩ v).setCell ⟨wr.heap.size, 2, none⟩ (.int .i64 0) →
      (W1.cell? ⟨wr.heap.size, 0, none⟩ = some (.string fi[i].1.name) ∧ W1.cell? ⟨wr.heap.size, 1, none⟩ = some v ∧ W1.cell? ⟨wr.heap.size, 2, none⟩ = some (.int .i64 0)) ∧ W1.cell? ⟨p, 1, none⟩ = some (.slice (some ⟨g, 0, none⟩) fi.length c) ∧
      (W1.cell? ⟨g, i * 3, none⟩ = some (.string fi[i].1.name) ∧ W1.cell? ⟨g, i * 3 + 1, none⟩ = some fi[i].2 ∧ W1.cell? ⟨g, i * 3 + 2, none⟩ = some (.int .i64 (fi[i].1.loose : Int)) ∧ ∀ j, W1.frozen? ⟨g, j, none⟩ = false) ∧
      ∀ W, W = ((W1.drew.setCell ⟨g, i * 3, none⟩ (.string fi[i].1.name)).setCell ⟨g, i * 3 + 1, none⟩ v).setCell ⟨g, i * 3 + 2, none⟩ (.int .i64 0) → ∃ fs', RCrashing base S w p room L keep W (i + 1) fs' (q + 1) := by
  have hbx := box_at hb
  obtain ⟨_, c1, c2, cz⟩ := cells3 hbx
  refine ⟨⟨c1, c2, cz⟩, fun W1 hW1 => ?_⟩
  have hbr : Below wr.heap.size wr w2 := ((Below.refl _ _).alloc (Nat.le_refl _) _).trans (hb.mono (by simp))
  have hz : (wr.alloc (fileBox fi[i].1.name fi[i].2 fi[i].1.loose)).heap.size = wr.heap.size + 1 := by simp
  have hsw := hC.left.keep.size
  have hsl : SlIn (fun j => Grow S w w2 j) w2 v bs := ho.slIn fun j h1 h2 => .inr (by omega)
  obtain ⟨hx, hb1, hs1, hz1⟩ := box_stored hbr hbx hsl hW1
  obtain ⟨d0, d1, d2, _⟩ := cells3 hx
  have hr1 := hrow.below (hC.left.disk.1.2 p hC.left.disk.2.1).2 hb1
  obtain ⟨r0, r1, r2, rz⟩ := hr1.file hi
  refine ⟨⟨d0, d1, d2⟩, hr1.cell, ⟨r0, r1, r2, rz⟩, fun W hW => ?_⟩
  refine RCrashing.cut h0 hC hi hlo (W0 := W1.drew) hb1.drew hrow v bs hbs ?_ hW
  have : SlIn (fun j => Grow S w w2 j) W1.drew v bs := hs1
  refine this.mono fun j hj => ?_
  rcases hj with hj | hj
  · exact .inl hj
  · refine .inr ⟨hj.1, ?_⟩
    show j < W1.heap.size
    omega
theorem wrap_next (q : Nat) (h : q ≤ 1000000000) : wrap64 ((q : Int) + 1) = ((q + 1 : Nat) : Int) := by unfold wrap64; omega
theorem stay_none {k : Int} {lo : Nat} (h : ¬ 0 < k) : (min (max k 0) (lo : Int)).toNat = 0 := by omega
theorem stay_all {k : Int} {lo : Nat} (h : (lo : Int) < k) : (min (max k 0) (lo : Int)).toNat = lo := by omega
theorem stay_some {k lo : Nat} (h : ¬ (lo : Int) < (k : Int)) : (min (max (k : Int) 0) (lo : Int)).toNat = k := by omega
set_option maxHeartbeats 6400000 in
set_option maxRecDepth 4000 in
theorem rcrash_any (hR : RDisk base S w p room fs) (A : Option Addr) (keep : List Int) (c : Nat) (hl : LiesI S w A keep) (hc : keep.length ≤ c) (hcm : c ≤ maxLen) (hlen : fs.length ≤ 1000000000) (hbl : ∀ y ∈ filesOf fs, y.b.length ≤ 549755813888) :
    Calls Tryd.prog 25 #[.pointer (some ⟨p, 0, none⟩), .slice A keep.length c] w fun e w' => e = .returned (.tuple #[]) ∧ ∃ fs', filesOf fs' = crashM (filesOf fs) keep ∧ RLeft base S w w' p room fs' := by
  obtain ⟨L, hL⟩ : ∃ L, filesOf fs = L := ⟨_, rfl⟩
  have hLn : fs.length = L.length := by rw [← hL, filesOf_length]
  have ST : Hid (RCrashing base S w p room L keep w 0 fs 0) := Lib.hid ⟨RLeft.of_below hR (Below.refl _ _), by simp, by rw [hL], hLn⟩
  have HLEN := Lib.hid (show L.length ≤ 1000000000 by omega)
  rw [hL] at hbl
  rw [hL]
  have HBLN := Lib.hid hbl
  have HR := Lib.hid hR
  have HLI := Lib.hid hl
  unfold maxLen at hcm
  have HCM := Lib.hid hcm
  have HKC := Lib.hid hc
  clear hR hl hc hlen hbl hL hLn hcm
  go_enter Tryd.func25, Tryd.ntmps25
  go_wp2_with fail
  go_loopw [4, 5] (fun qv iv wr => ∃ (q i : Nat) (fi : List FileV), qv = .int .i64 (q : Int) ∧ iv = .int .i64 (i : Int) ∧ i ≤ L.length ∧ q ≤ i ∧ RCrashing base S w p room L keep wr i fi q)
    (fun _ iv _ => L.length - (intOf iv).toNat)
  case atStart => exact ⟨0, 0, fs, rfl, rfl, Nat.zero_le _, Nat.le_refl _, ST.out⟩
  case round =>
    obtain ⟨q, i, fi, rfl, rfl, hi, hqi, hC⟩ := hrel
    have hll := HLEN.out
    have hfl := hC.len
    by_cases hlt : i < L.length
    · have hfi : i < fi.length := by omega
      obtain ⟨g, c1, hrow⟩ := hC.left.disk.rowAt (by rintro rfl; simp at hfi)
      obtain ⟨f0, f1, f2, fz⟩ := hrow.file hfi
      have hcell := hrow.cell
      have hcap := hrow.cap
      have hcapm := hrow.capm
      unfold maxLen at hcapm
      obtain ⟨hsl, hwf⟩ : SlIn (Grow S w wr) wr fi[i].2 fi[i].1.b ∧ fi[i].1.wf := by obtain ⟨_, _, _, _, hr⟩ := hC.left.disk; exact hr.2.2 _ (List.getElem_mem hfi)
      have hBL := HBLN.out _ (hC.at_ hfi).2.2
      have hlo := hwf.2.2
      have HSK := Lib.hid (fun h (W : World) (hb : Below wr.heap.size wr W) => (hC.skip hfi h).behind HR.out hb)
      have HEND := Lib.hid (fun h w2 v bs hb ho hbs => crash_end HR.out hC hfi h hrow (w2 := w2) (v := v) (bs := bs) hb ho hbs)
      have HKL := Lib.hid (HLI.out.keep hC.left.keep)
      obtain ⟨Ab, cb, hbv, hcb, hcbm, hAb, _⟩ := id hsl
      have HAP : Hid (∀ NN : Nat, NN ≤ fi[i].1.b.length → ∀ ty, ∃ A' c' w2, (Builtin.append_ #[31, 31] ty #[.slice none 0 0, .slice Ab NN cb]).run Tryd.prog (wr.alloc (fileBox fi[i].1.name fi[i].2 fi[i].1.loose)) = .ok (.slice A' NN c') w2 ∧ Own .u8 5 w2 (wr.alloc (fileBox fi[i].1.name fi[i].2 fi[i].1.loose)).heap.size (.slice A' NN c') (fi[i].1.b.take NN) ∧ Below (wr.alloc (fileBox fi[i].1.name fi[i].2 fi[i].1.loose)).heap.size (wr.alloc (fileBox fi[i].1.name fi[i].2 fi[i].1.loose)) w2) := Lib.hid fun NN hNN ty => by
        have hsl2 := hsl.below ((Below.refl wr.heap.size wr).alloc (Nat.le_refl _) (fileBox fi[i].1.name fi[i].2 fi[i].1.loose))
        rw [hbv] at hsl2
        obtain ⟨A3, c3, e3, h31, h32, h33, h34⟩ := hsl2.take hNN
        have hl3 : (fi[i].1.b.take NN).length = NN := by rw [List.length_take]; omega
        injection e3 with e31 _ e33
        subst e31 e33
        have hnb := new_bytes h34.lies h33 h31 (by omega) ty
        rw [hl3] at hnb
        rw [hbv]
        exact hnb
      rw [hbv] at f1 HEND HAP
      generalize fi[i] = x at f0 f1 f2 HSK HEND HAP hBL hlo hcb
      obtain ⟨⟨nm, bb, LO⟩, bv⟩ := x
      dsimp only at f0 f1 f2 HSK HEND HAP hBL hlo hcb
      obtain ⟨BL, hBLe⟩ : ∃ BL, bb.length = BL := ⟨_, rfl⟩
      simp only [hBLe] at f1 HEND HAP hBL hlo hcb
      have HBLE := Lib.hid hBLe
      unfold maxLen at hcbm
      have hqb : q ≤ 1000000000 := by omega
      have HWQ := Lib.hid (wrap_next q hqb)
      clear hwf hsl hrow hbv hBLe hAb bv
      unfold fileBox at HEND HAP
      obtain ⟨fl, hfle⟩ : ∃ fl, fi.length = fl := ⟨_, rfl⟩
      rw [hfle] at hfi hfl hcap hcell
      simp only [hfle] at HEND
      clear hfle
      by_cases h0 : LO = 0
      · subst h0
        have SK := Lib.hid (HSK.out rfl)
        clear HSK HEND HAP HKL
        go_wp2_with fail
        go_roundw
        case rel => exact ⟨q, i + 1, fi, rfl, by go_num, hlt, Nat.le_succ_of_le hqi, SK.out _ ((Below.refl _ _).alloc (Nat.le_refl _) _)⟩
        case measure => simp [intOf]; omega
      · have hz : ((LO : Int) == 0) = false := by simpa using h0
        obtain ⟨M, hM⟩ : ∃ M, BL - LO = M := ⟨_, rfl⟩
        have hw1 : wrap64 ((BL : Int) - (LO : Int)) = (M : Int) := by unfold wrap64; omega
        have HMB := Lib.hid (show M + LO = BL by omega)
        have HM := Lib.hid hM
        clear hM HSK hC
        by_cases hq : q < keep.length
        · obtain ⟨b, off, hA, _, _, hkc⟩ := HKL.out (by rintro rfl; simp at hq)
          have hk0 := hkc q hq
          have hqd : decide ((q : Int) < (keep.length : Int)) = true := decide_eq_true (by omega)
          have HH := Lib.hid (show (keep.drop q).headD 0 = keep[q] by rw [List.drop_eq_getElem_cons hq]; rfl)
          generalize keep[q] = kq at hk0 HH
          subst hA
          have hkc2 := HKC.out
          have hcm2 := HCM.out
          clear hkc HKL
          by_cases hneg : kq ≤ 0
          · have hd : decide (0 < kq) = false := decide_eq_false (by omega)
            have hd2 : ¬ 0 < kq := by omega
            obtain ⟨NN, hNN⟩ : ∃ NN, NN = M := ⟨_, rfl⟩
            have hle : NN ≤ BL := by rw [hNN, ← HMB.out]; exact Nat.le_add_right _ _
            have hw2 : wrap64 (M : Int) = (NN : Int) := by have := HMB.out; unfold wrap64; omega
            have hlo0 : decide ((LO : Int) < 0) = false := decide_eq_false (by omega)
            have HBS := Lib.hid (show bb.take NN = (crashF ⟨nm, bb, LO⟩ ((keep.drop q).headD 0)).b by rw [HH.out]; unfold crashF; rw [HBLE.out, HM.out, stay_none hd2, hNN, Nat.add_zero])
            have HAP2 := Lib.hid (HAP.out NN hle)
            have HQI := Lib.hid hqi
            have HLT := Lib.hid hlt
            have hNB : NN ≤ cb := Nat.le_trans hle hcb
            clear HAP hNN hqi hi hll hfl hlt hcb hBL hlo hqb
            go_wp2_with (at_builtin; obtain ⟨A', c', w2, hrun, ho, hb2⟩ := HAP2.out 31; refine wpList_append_run rfl (.const (.slice none 0 0)) (.tmp 60) 31 rfl _ _ rfl rfl _ w2 hrun ?_; have HE := Lib.hid (HEND.out h0 w2 _ _ hb2 ho HBS.out); clear hrun ho hb2; refine Hid.out ?_)
            clear HEND HAP2 HBS f0 f1 f2 fz hcell
            obtain ⟨⟨e1, e2, ez⟩, hE⟩ := HE.out
            have HE2 := Lib.hid hE
            clear HE hE
            refine Lib.hid ?_
            go_wp2_with fail
            generalize hW1 : (w2.setCell ⟨wr.heap.size, 1, none⟩ (.slice A' NN c')).setCell ⟨wr.heap.size, 2, none⟩ (.int .i64 0) = W1
            obtain ⟨⟨g0, g1, g2⟩, gp, ⟨k0, k1, k2, kz⟩, hEE⟩ := HE2.out W1 hW1.symm
            have HE3 := Lib.hid hEE
            clear hEE HE2 hW1 e1 e2 ez w2
            go_still_tail 7, (by kernel_rfl)
            change wpList _ _ _ _ _ W1.drew
            have k0' : W1.drew.cell? ⟨g, i * 3, none⟩ = some (.string nm) := k0
            have k1' : W1.drew.cell? ⟨g, i * 3 + 1, none⟩ = some (.slice Ab BL cb) := k1
            have k2' : W1.drew.cell? ⟨g, i * 3 + 2, none⟩ = some (.int .i64 (LO : Int)) := k2
            have z0 : W1.drew.frozen? ⟨g, i * 3, none⟩ = false := kz _
            have z1 : W1.drew.frozen? ⟨g, i * 3 + 1, none⟩ = false := kz _
            have z2 : W1.drew.frozen? ⟨g, i * 3 + 2, none⟩ = false := kz _
            clear k0 k1 k2 kz g0 g1 g2 gp
            generalize W1.drew = W2 at *
            clear W1
            go_wp2_with fail
            go_roundw
            case rel =>
              obtain ⟨f3, h3⟩ := HE3.out _ rfl
              have hqi := HQI.out
              have hlt := HLT.out
              have hll := HLEN.out
              exact ⟨q + 1, i + 1, f3, by first | rw [HWQ.out] | rfl | go_num, by go_num, hlt, Nat.succ_le_succ hqi, h3⟩
            case measure => have hlt := HLT.out; have hll := HLEN.out; simp [intOf]; omega
          · have hd : decide (0 < kq) = true := decide_eq_true (by omega)
            have hd2 : 0 < kq := by omega
            by_cases hbig : (LO : Int) < kq
            · have hdb : decide ((LO : Int) < kq) = true := decide_eq_true hbig
              obtain ⟨NN, hNN⟩ : ∃ NN, NN = M + LO := ⟨_, rfl⟩
              have hle : NN ≤ BL := by rw [hNN, ← HMB.out]; exact Nat.le_refl _
              have hw2 : wrap64 ((M : Int) + (LO : Int)) = (NN : Int) := by have := HMB.out; unfold wrap64; omega
              have HBS := Lib.hid (show bb.take NN = (crashF ⟨nm, bb, LO⟩ ((keep.drop q).headD 0)).b by rw [HH.out]; unfold crashF; rw [HBLE.out, HM.out, stay_all hbig, hNN])
              have HAP2 := Lib.hid (HAP.out NN hle)
              have HQI := Lib.hid hqi
              have HLT := Lib.hid hlt
              have hNB : NN ≤ cb := Nat.le_trans hle hcb
              clear HAP hNN hqi hi hll hfl hlt hcb hBL hlo hqb
              go_wp2_with (at_builtin; obtain ⟨A', c', w2, hrun, ho, hb2⟩ := HAP2.out 31; refine wpList_append_run rfl (.const (.slice none 0 0)) (.tmp 60) 31 rfl _ _ rfl rfl _ w2 hrun ?_; have HE := Lib.hid (HEND.out h0 w2 _ _ hb2 ho HBS.out); clear hrun ho hb2; refine Hid.out ?_)
              clear HEND HAP2 HBS f0 f1 f2 fz hcell
              obtain ⟨⟨e1, e2, ez⟩, hE⟩ := HE.out
              have HE2 := Lib.hid hE
              clear HE hE
              refine Lib.hid ?_
              go_wp2_with fail
              generalize hW1 : (w2.setCell ⟨wr.heap.size, 1, none⟩ (.slice A' NN c')).setCell ⟨wr.heap.size, 2, none⟩ (.int .i64 0) = W1
              obtain ⟨⟨g0, g1, g2⟩, gp, ⟨k0, k1, k2, kz⟩, hEE⟩ := HE2.out W1 hW1.symm
              have HE3 := Lib.hid hEE
              clear hEE HE2 hW1 e1 e2 ez w2
              go_still_tail 7, (by kernel_rfl)
              change wpList _ _ _ _ _ W1.drew
              have k0' : W1.drew.cell? ⟨g, i * 3, none⟩ = some (.string nm) := k0
              have k1' : W1.drew.cell? ⟨g, i * 3 + 1, none⟩ = some (.slice Ab BL cb) := k1
              have k2' : W1.drew.cell? ⟨g, i * 3 + 2, none⟩ = some (.int .i64 (LO : Int)) := k2
              have z0 : W1.drew.frozen? ⟨g, i * 3, none⟩ = false := kz _
              have z1 : W1.drew.frozen? ⟨g, i * 3 + 1, none⟩ = false := kz _
              have z2 : W1.drew.frozen? ⟨g, i * 3 + 2, none⟩ = false := kz _
              clear k0 k1 k2 kz g0 g1 g2 gp
              generalize W1.drew = W2 at *
              clear W1
              go_wp2_with fail
              go_roundw
              case rel =>
                obtain ⟨f3, h3⟩ := HE3.out _ rfl
                have hqi := HQI.out
                have hlt := HLT.out
                have hll := HLEN.out
                exact ⟨q + 1, i + 1, f3, by first | rw [HWQ.out] | rfl | go_num, by go_num, hlt, Nat.succ_le_succ hqi, h3⟩
              case measure => have hlt := HLT.out; have hll := HLEN.out; simp [intOf]; omega
            · have hdb : decide ((LO : Int) < kq) = false := decide_eq_false hbig
              obtain ⟨st, rfl⟩ : ∃ st : Nat, kq = (st : Int) := ⟨kq.toNat, by omega⟩
              obtain ⟨NN, hNN⟩ : ∃ NN, NN = M + st := ⟨_, rfl⟩
              have hle : NN ≤ BL := by rw [hNN, ← HMB.out]; exact Nat.add_le_add_left (by omega) _
              have hw2 : wrap64 ((M : Int) + (st : Int)) = (NN : Int) := by have := HMB.out; unfold wrap64; omega
              have HBS := Lib.hid (show bb.take NN = (crashF ⟨nm, bb, LO⟩ ((keep.drop q).headD 0)).b by rw [HH.out]; unfold crashF; rw [HBLE.out, HM.out, stay_some hbig, hNN])
              have HAP2 := Lib.hid (HAP.out NN hle)
              have HQI := Lib.hid hqi
              have HLT := Lib.hid hlt
              have hNB : NN ≤ cb := Nat.le_trans hle hcb
              clear HAP hNN hqi hi hll hfl hlt hcb hBL hlo hqb
              go_wp2_with (at_builtin; obtain ⟨A', c', w2, hrun, ho, hb2⟩ := HAP2.out 31; refine wpList_append_run rfl (.const (.slice none 0 0)) (.tmp 60) 31 rfl _ _ rfl rfl _ w2 hrun ?_; have HE := Lib.hid (HEND.out h0 w2 _ _ hb2 ho HBS.out); clear hrun ho hb2; refine Hid.out ?_)
              clear HEND HAP2 HBS f0 f1 f2 fz hcell
              obtain ⟨⟨e1, e2, ez⟩, hE⟩ := HE.out
              have HE2 := Lib.hid hE
              clear HE hE
              refine Lib.hid ?_
              go_wp2_with fail
              generalize hW1 : (w2.setCell ⟨wr.heap.size, 1, none⟩ (.slice A' NN c')).setCell ⟨wr.heap.size, 2, none⟩ (.int .i64 0) = W1
              obtain ⟨⟨g0, g1, g2⟩, gp, ⟨k0, k1, k2, kz⟩, hEE⟩ := HE2.out W1 hW1.symm
              have HE3 := Lib.hid hEE
              clear hEE HE2 hW1 e1 e2 ez w2
              go_still_tail 7, (by kernel_rfl)
              change wpList _ _ _ _ _ W1.drew
              have k0' : W1.drew.cell? ⟨g, i * 3, none⟩ = some (.string nm) := k0
              have k1' : W1.drew.cell? ⟨g, i * 3 + 1, none⟩ = some (.slice Ab BL cb) := k1
              have k2' : W1.drew.cell? ⟨g, i * 3 + 2, none⟩ = some (.int .i64 (LO : Int)) := k2
              have z0 : W1.drew.frozen? ⟨g, i * 3, none⟩ = false := kz _
              have z1 : W1.drew.frozen? ⟨g, i * 3 + 1, none⟩ = false := kz _
              have z2 : W1.drew.frozen? ⟨g, i * 3 + 2, none⟩ = false := kz _
              clear k0 k1 k2 kz g0 g1 g2 gp
              generalize W1.drew = W2 at *
              clear W1
              go_wp2_with fail
              go_roundw
              case rel =>
                obtain ⟨f3, h3⟩ := HE3.out _ rfl
                have hqi := HQI.out
                have hlt := HLT.out
                have hll := HLEN.out
                exact ⟨q + 1, i + 1, f3, by first | rw [HWQ.out] | rfl | go_num, by go_num, hlt, Nat.succ_le_succ hqi, h3⟩
              case measure => have hlt := HLT.out; have hll := HLEN.out; simp [intOf]; omega
        · have hqd : decide ((q : Int) < (keep.length : Int)) = false := decide_eq_false (by omega)
          have hqd2 : ¬ (q : Int) < (keep.length : Int) := by omega
          have HH := Lib.hid (show (keep.drop q).headD 0 = 0 by rw [List.drop_of_length_le (by omega)]; rfl)
          clear HKL
          obtain ⟨NN, hNN⟩ : ∃ NN, NN = M := ⟨_, rfl⟩
          have hle : NN ≤ BL := by rw [hNN, ← HMB.out]; exact Nat.le_add_right _ _
          have hw2 : wrap64 (M : Int) = (NN : Int) := by have := HMB.out; unfold wrap64; omega
          have hlo0 : decide ((LO : Int) < 0) = false := decide_eq_false (by omega)
          have HBS := Lib.hid (show bb.take NN = (crashF ⟨nm, bb, LO⟩ ((keep.drop q).headD 0)).b by rw [HH.out]; unfold crashF; rw [HBLE.out, HM.out, stay_none (k := 0) (by decide), hNN, Nat.add_zero])
          have HAP2 := Lib.hid (HAP.out NN hle)
          have HQI := Lib.hid hqi
          have HLT := Lib.hid hlt
          have hNB : NN ≤ cb := Nat.le_trans hle hcb
          clear HAP hNN hqi hi hll hfl hlt hcb hBL hlo hqb
          go_wp2_with (at_builtin; obtain ⟨A', c', w2, hrun, ho, hb2⟩ := HAP2.out 31; refine wpList_append_run rfl (.const (.slice none 0 0)) (.tmp 60) 31 rfl _ _ rfl rfl _ w2 hrun ?_; have HE := Lib.hid (HEND.out h0 w2 _ _ hb2 ho HBS.out); clear hrun ho hb2; refine Hid.out ?_)
          clear HEND HAP2 HBS f0 f1 f2 fz hcell
          obtain ⟨⟨e1, e2, ez⟩, hE⟩ := HE.out
          have HE2 := Lib.hid hE
          clear HE hE
          refine Lib.hid ?_
          go_wp2_with fail
          generalize hW1 : (w2.setCell ⟨wr.heap.size, 1, none⟩ (.slice A' NN c')).setCell ⟨wr.heap.size, 2, none⟩ (.int .i64 0) = W1
          obtain ⟨⟨g0, g1, g2⟩, gp, ⟨k0, k1, k2, kz⟩, hEE⟩ := HE2.out W1 hW1.symm
          have HE3 := Lib.hid hEE
          clear hEE HE2 hW1 e1 e2 ez w2
          go_still_tail 7, (by kernel_rfl)
          change wpList _ _ _ _ _ W1.drew
          have k0' : W1.drew.cell? ⟨g, i * 3, none⟩ = some (.string nm) := k0
          have k1' : W1.drew.cell? ⟨g, i * 3 + 1, none⟩ = some (.slice Ab BL cb) := k1
          have k2' : W1.drew.cell? ⟨g, i * 3 + 2, none⟩ = some (.int .i64 (LO : Int)) := k2
          have z0 : W1.drew.frozen? ⟨g, i * 3, none⟩ = false := kz _
          have z1 : W1.drew.frozen? ⟨g, i * 3 + 1, none⟩ = false := kz _
          have z2 : W1.drew.frozen? ⟨g, i * 3 + 2, none⟩ = false := kz _
          clear k0 k1 k2 kz g0 g1 g2 gp
          generalize W1.drew = W2 at *
          clear W1
          go_wp2_with fail
          go_roundw
          case rel =>
            obtain ⟨f3, h3⟩ := HE3.out _ rfl
            have hqi := HQI.out
            have hlt := HLT.out
            have hll := HLEN.out
            exact ⟨q + 1, i + 1, f3, by first | rw [HWQ.out] | rfl | go_num, by go_num, hlt, Nat.succ_le_succ hqi, h3⟩
          case measure => have hlt := HLT.out; have hll := HLEN.out; simp [intOf]; omega
    · obtain rfl : i = L.length := by omega
      have FN := Lib.hid (hC.done (by omega))
      have FL := Lib.hid hC.left
      have hcells := hC.left.disk.cells
      obtain ⟨A1, c1, _, hcell, hcap, hcapm, _⟩ := hcells
      rw [hfl] at hcell hcap
      unfold maxLen at hcapm
      clear hC
      go_wp2
      go_end0
      exact ⟨rfl, fi, FN.out, FL.out⟩
end
end Go.Proofs.YtefjbefmmmllbaaDoor
