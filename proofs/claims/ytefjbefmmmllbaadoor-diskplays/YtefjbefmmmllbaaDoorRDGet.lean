/- A contract of the document's own get. -/
import Derived.Test.YtefjbefmmmllbaaDoorRDFind
import Derived.Test.YtefjbefmmmllbaaDoorRefValid
import Derived.Handy
import Derived.Test.YtefjbefmmmllbaaDoorCame
namespace Go.Proofs.YtefjbefmmmllbaaDoor
open Go.RowKit

/-- What get answers: a file, whose bytes lie where they lay, and the error. -/
def TellsF (S : Nat → Prop) (r : FileM × Int) (w : World) (e : Ending) (w' : World) : Prop := ∃ bv, e = .returned (.tuple #[.agg #[.string r.1.name, bv, .int .i64 (r.1.loose : Int)], .int .i64 r.2]) ∧ SlIn S w bv r.1.b ∧ Below w.heap.size w w'
theorem getM_some {l : List FileM} {n : ByteArray} (h : validS n = true) (hh : hasF l n = true) : getM l n = (l[findK l n]'(hasF_lt hh), 0) := by
  unfold getM
  rw [if_neg (by rw [h]; simp), if_pos hh, List.getElem?_eq_getElem (hasF_lt hh)]
  rfl

set_option maxHeartbeats 1600000 in
theorem rget_any (base : Nat) (S : Nat → Prop) (w : World) (p : Nat) (room : Int) (fs : List FileV) (n : ByteArray) (hR : RDisk base S w p room fs) (hn : n.size ≤ maxLen) :
    Calls Tryd.prog 42 #[.pointer (some ⟨p, 0, none⟩), .string n] w (TellsF S (getM (filesOf fs) n) w) := by
  have hv := fun W => refvalid_any n W hn
  cases hvn : validS n with
  | false =>
    rw [hvn] at hv
    rw [getM_bad hvn]
    have HV := Lib.hid hv
    clear hv hvn
    go_enter Tryd.func42, Tryd.ntmps42
    go_wp2_with fail
    refine (HV.out _).mono ?_
    rintro e w1 ⟨rfl, rfl⟩
    go_wp2
    go_returns
    exact ⟨_, rfl, SlIn.nil, (Below.refl _ _).alloc (Nat.le_refl _) _⟩
  | true =>
    rw [hvn] at hv
    have HV := Lib.hid hv
    clear hv
    have hb0 : Below w.heap.size w (w.alloc (.cells #[.string ⟨#[]⟩, .slice none 0 0, .int .i64 0] 74)) := (Below.refl _ _).alloc (Nat.le_refl _) _
    have hf := rfind_any base S _ p room fs n (hR.below hb0)
    cases hh : hasF (filesOf fs) n with
    | false =>
      rw [getM_none hvn hh]
      rw [hh] at hf
      have HF := Lib.hid hf
      clear hvn hf hh
      go_enter Tryd.func42, Tryd.ntmps42
      go_wp2_with fail
      refine (HV.out _).mono ?_
      rintro e w1 ⟨rfl, rfl⟩
      go_wp2_with fail
      refine HF.out.mono ?_
      rintro e w1 ⟨rfl, m, rfl⟩
      go_wp2
      go_returns
      exact ⟨_, rfl, SlIn.nil, below_store3 (below_drewN hb0 m) (Nat.le_refl _) 0 _ _ _⟩
    | true =>
      have hlt := hasF_lt hh
      rw [filesOf_length] at hlt
      have hgm := getM_some hvn hh
      rw [filesOf_at fs _ hlt] at hgm
      rw [hgm]
      rw [hh] at hf
      obtain ⟨k, hk⟩ : ∃ k, findK (filesOf fs) n = k := ⟨_, rfl⟩
      simp only [hk] at hf hlt ⊢
      have HF := Lib.hid hf
      obtain ⟨A, c, c0, c1, hc, hm, _, hfs⟩ := hR.cells
      obtain ⟨_, _, lv, _, hrow⟩ := hR
      obtain ⟨hsl, _⟩ := hrow.2.2 fs[k] (List.getElem_mem hlt)
      obtain ⟨g, off, rfl, hgl, hat⟩ := hfs (by rintro rfl; simp at hlt)
      obtain ⟨n0, n1, n2⟩ := hat k hlt
      have hpl : p < w.heap.size := cell_block_lt c0
      obtain ⟨Ab, cb, hv2, _⟩ := id hsl
      rw [hv2] at n1 hsl
      generalize fs[k].1 = f at *
      clear hvn hf hh hgm hk hat hfs hrow hv2
      go_enter Tryd.func42, Tryd.ntmps42
      go_wp2_with fail
      refine (HV.out _).mono ?_
      rintro e w1 ⟨rfl, rfl⟩
      go_wp2_with fail
      refine HF.out.mono ?_
      rintro e w1 ⟨rfl, m, rfl⟩
      go_wp2
      go_returns
      exact ⟨_, rfl, hsl, below_store3 (below_drewN hb0 m) (Nat.le_refl _) 0 _ _ _⟩
end Go.Proofs.YtefjbefmmmllbaaDoor
