/- Contracts of the document's own find and Used. -/
import Derived.Test.YtefjbefmmmllbaaDoorRDisk
import Derived.Deep.QuietTactic
import Derived.BigQuiet
namespace Go.Proofs.YtefjbefmmmllbaaDoor
open Go.RowKit

set_option maxHeartbeats 1600000 in
theorem rfind_any (base : Nat) (S : Nat → Prop) (w : World) (p : Nat) (room : Int) (fs : List FileV) (n : ByteArray) (hR : RDisk base S w p room fs) :
    Calls Tryd.prog 40 #[.pointer (some ⟨p, 0, none⟩), .string n] w fun e w' => e = .returned (.tuple #[.int .i64 ((findK (filesOf fs) n : Nat) : Int), .bool (hasF (filesOf fs) n)]) ∧ ∃ m, w' = w.drewN m := by
  obtain ⟨A, c, c0, c1, hc, hm, _, hfs⟩ := hR.cells
  unfold maxLen at hm
  clear hR
  obtain ⟨K, hK⟩ : ∃ K, findK (filesOf fs) n = K := ⟨_, rfl⟩
  obtain ⟨H, hH⟩ : ∃ H, hasF (filesOf fs) n = H := ⟨_, rfl⟩
  have HK := Lib.hid hK
  have HH := Lib.hid hH
  rw [hK, hH]
  clear hK hH
  go_enter Tryd.func40, Tryd.ntmps40
  go_wp2_with fail
  go_loop [6] (fun kv => ∃ k : Nat, kv = .int .i64 k ∧ k ≤ fs.length ∧ ∀ j (h : j < fs.length), j < k → ltS fs[j].1.name n = true)
    (fun kv => fs.length - (intOf kv).toNat)
  case atStart => exact ⟨0, rfl, Nat.zero_le _, fun j _ h => absurd h (by omega)⟩
  case round =>
    obtain ⟨k, rfl, hk, hj⟩ := hrel
    have HJ := Lib.hid hj
    clear hj
    by_cases hlt : k < fs.length
    · obtain ⟨g, off, rfl, hgl, hat⟩ := hfs (by rintro rfl; simp at hlt)
      obtain ⟨n0, _, _⟩ := hat k hlt
      have hltd : decide ((k : Int) < (fs.length : Int)) = true := decide_eq_true (by omega)
      cases hl : ltS fs[k].1.name n with
      | true =>
        have hl' : Op.bytesLess fs[k].1.name.toList n.toList = true := hl
        have HL := Lib.hid hl
        generalize hnm : fs[k].1.name = nm at n0 hl'
        clear hl hat hnm
        go_wp2
        go_round
        case rel =>
          refine ⟨k + 1, by go_num, by omega, fun j h hj => ?_⟩
          by_cases e : j = k
          · subst e; exact HL.out
          · exact HJ.out j h (by omega)
        case measure => simp [intOf]; omega
      | false =>
        have hl' : Op.bytesLess fs[k].1.name.toList n.toList = false := hl
        have hK := findK_at (filesOf fs) n k (by rw [filesOf_length]; exact hk) (fun j h hj => by rw [filesOf_length] at h; rw [filesOf_at fs j h]; exact HJ.out j h hj) (fun h => by rw [filesOf_at fs k hlt]; exact hl)
        have hH := hasF_at (filesOf fs) n (by rw [hK, filesOf_length]; exact hlt)
        simp only [hK] at hH
        rw [filesOf_at fs k hlt] at hH
        have HK2 := Lib.hid (HK.out.symm.trans hK)
        have HH2 := Lib.hid (HH.out.symm.trans hH)
        generalize hnm : fs[k].1.name = nm at n0 hl' HH2
        cases he : (nm.toList == n.toList) with
        | true =>
          have HH3 := Lib.hid (HH2.out.trans he)
          clear hl hat hnm hH hK HK HH HH2
          go_wp2_with fail
          go_quiet (fail)
          go_wp2
          go_ret2
          exact ⟨by rw [HK2.out, HH3.out]; rfl, _, rfl⟩
        | false =>
          have HH3 := Lib.hid (HH2.out.trans he)
          clear hl hat hnm hH hK HK HH HH2
          go_wp2_with fail
          go_quiet (fail)
          go_wp2
          go_ret2
          exact ⟨by rw [HK2.out, HH3.out]; rfl, _, rfl⟩
    · have hltd : decide ((k : Int) < (fs.length : Int)) = false := decide_eq_false (by omega)
      have hltd2 : decide (k < fs.length) = false := decide_eq_false (by omega)
      have hK := findK_at (filesOf fs) n k (by rw [filesOf_length]; exact hk) (fun j h hj => by rw [filesOf_length] at h; rw [filesOf_at fs j h]; exact HJ.out j h hj) (fun h => by rw [filesOf_length] at h; omega)
      have hH := hasF_none (filesOf fs) n (by rw [hK, filesOf_length]; omega)
      have HK2 := Lib.hid (HK.out.symm.trans hK)
      have HH3 := Lib.hid (HH.out.symm.trans hH)
      clear hH hK HK HH hfs
      go_wp2_with fail
      go_quiet (fail)
      go_wp2
      go_ret2
      exact ⟨by rw [HK2.out, HH3.out]; rfl, _, rfl⟩

set_option maxHeartbeats 800000 in
theorem rused_any (base : Nat) (S : Nat → Prop) (w : World) (p : Nat) (room : Int) (fs : List FileV) (hR : RDisk base S w p room fs) (hu : usedM (filesOf fs) ≤ 1099511627776) :
    Calls Tryd.prog 30 #[.pointer (some ⟨p, 0, none⟩)] w fun e w' => e = .returned (.int .i64 ((usedM (filesOf fs) : Nat) : Int)) ∧ w = w' := by
  obtain ⟨A, c, c0, c1, hc, hm, _, hfs⟩ := hR.cells
  have hsl : ∀ x ∈ fs, SlIn S w x.2 x.1.b := fun x hx => by obtain ⟨_, _, _, _, hr⟩ := hR; exact (hr.2.2 x hx).1
  unfold maxLen at hm
  clear hR
  obtain ⟨U, hU⟩ : ∃ U, usedM (filesOf fs) = U := ⟨_, rfl⟩
  have HU := Lib.hid hU
  rw [hU] at hu ⊢
  clear hU
  go_enter Tryd.func30, Tryd.ntmps30
  go_wp2_with fail
  go_loop [3, 4] (fun nv iv => ∃ k u : Nat, iv = .int .i64 k ∧ k ≤ fs.length ∧ nv = .int .i64 u ∧ u = usedM ((filesOf fs).take k))
    (fun _ iv => fs.length - (intOf iv).toNat)
  case atStart => exact ⟨0, 0, rfl, Nat.zero_le _, rfl, rfl⟩
  case round =>
    obtain ⟨k, u, rfl, hk, rfl, hue⟩ := hrel
    by_cases hlt : k < fs.length
    · obtain ⟨g, off, rfl, hgl, hat⟩ := hfs (by rintro rfl; simp at hlt)
      obtain ⟨_, n1, _⟩ := hat k hlt
      obtain ⟨Ab, cb, hv, _⟩ := hsl fs[k] (List.getElem_mem hlt)
      rw [hv] at n1
      have hsn := usedM_snoc (filesOf fs) k (by rw [filesOf_length]; exact hlt)
      rw [filesOf_at fs k hlt, ← hue] at hsn
      have hle := usedM_le (filesOf fs) (k + 1)
      rw [HU.out, hsn] at hle
      generalize fs[k].1.b.length = bl at n1 hsn hle
      have HS := Lib.hid hsn
      clear hsn hv hat hue
      go_wp2
      go_round
      case rel => exact ⟨k + 1, u + bl, by go_num, by omega, by go_num, HS.out.symm⟩
      case measure => simp [intOf]; omega
    · have HF := Lib.hid (show u = U by rw [hue, ← HU.out, List.take_of_length_le (by rw [filesOf_length]; omega)])
      clear hue
      go_wp2
      go_ret
      exact ⟨by rw [← HF.out]; rfl, rfl⟩
end Go.Proofs.YtefjbefmmmllbaaDoor
