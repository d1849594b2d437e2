/- Two files of a disk, one ahead of the other; names that the statements use. -/
import Derived.Test.YtkohjkjjkkkpoaaDoorDAlive
namespace Go.Proofs.YtkohjkjjkkkpoaaDoor
open Go.RowKit Go.Maps

theorem old_valid : validS ⟨#[111, 108, 100]⟩ = true := by decide +kernel
theorem new_valid : validS ⟨#[110, 101, 119]⟩ = true := by decide +kernel
theorem there_valid : validS ⟨#[116, 104, 101, 114, 101]⟩ = true := by decide +kernel
theorem new_old : ltS ⟨#[110, 101, 119]⟩ ⟨#[111, 108, 100]⟩ = true := by decide +kernel
theorem find_ahead {f : FileM} {t : List FileM} {n : ByteArray} (h : ltS n f.name = true) : findK (f :: t) n = 0 := by rw [findK_cons, ltS_asymm h]; simp
theorem has_ahead {f : FileM} {t : List FileM} {n : ByteArray} (h : ltS n f.name = true) : hasF (f :: t) n = false := by
  rw [hasF_cons, ltS_asymm h]
  simp only [Bool.false_eq_true, if_false]
  exact decide_eq_false (ltS_ne h).symm
theorem append_ahead {f : FileM} {n : ByteArray} {ys : List Int} {room : Int} (hv : validS n = true) (h : ltS n f.name = true) (hr : (f.b.length : Int) + (ys.length : Int) ≤ room) : appendM room [f] n ys = ([⟨n, ys, ys.length⟩, f], 0) := by
  have e1 : ofName [f] n = ⟨n, [], 0⟩ := by
    unfold ofName
    rw [if_neg (by rw [has_ahead h]; simp)]
  unfold appendM
  rw [if_neg (by rw [hv]; simp), if_neg (by simp [usedM]; omega), e1]
  unfold layF tailK
  dsimp only
  rw [has_ahead h, find_ahead h]
  simp
theorem sync_first {n : ByteArray} {b : List Int} {lo : Nat} {t : List FileM} (hv : validS n = true) : syncM (⟨n, b, lo⟩ :: t) n = (⟨n, b, 0⟩ :: t, 0) := by
  have h1 := get_self ⟨n, b, lo⟩ t hv
  dsimp only at h1
  unfold syncM
  rw [h1, if_neg (by simp)]
  exact congrArg (·, (0 : Int)) (lay_self ⟨n, b, lo⟩ ⟨n, b, 0⟩ t rfl)
theorem remove_first {n : ByteArray} {b : List Int} {lo : Nat} {t : List FileM} (hv : validS n = true) : removeM (⟨n, b, lo⟩ :: t) n = (t, 0) := by
  have h1 := get_self ⟨n, b, lo⟩ t hv
  have h2 := find_self ⟨n, b, lo⟩ t
  dsimp only at h1 h2
  unfold removeM
  rw [h1, if_neg (by simp), h2]
  simp
theorem rename_over {a c : ByteArray} {b xs : List Int} {lo l2 : Nat} (ha : validS a = true) (hc : validS c = true) (hne : a ≠ c) : renameM [⟨a, b, lo⟩, ⟨c, xs, l2⟩] a c = ([⟨c, b, lo⟩], 0) := by
  have h1 := get_self ⟨a, b, lo⟩ [⟨c, xs, l2⟩] ha
  dsimp only at h1
  unfold renameM
  rw [if_neg (by rw [ha, hc]; simp), h1, if_neg (by simp), if_neg hne, remove_first ha]
  exact congrArg (·, (0 : Int)) (lay_self ⟨c, xs, l2⟩ ⟨c, b, lo⟩ [] rfl)
theorem get_ahead {f : FileM} {t : List FileM} {n : ByteArray} (hv : validS n = true) (h : ltS n f.name = true) : getM (f :: t) n = (noFile, 8) := by
  unfold getM
  rw [if_neg (by rw [hv]; simp), if_neg (by rw [has_ahead h]; simp)]
theorem row_form {w : World} {base : Nat} {v : Value} {n : Nat} {cs : List Value} (h : w.ownsRow base 9 1 v n cs) : ∃ A c, v = .slice A n c := by
  rcases h.2 with ⟨rfl, h0⟩ | ⟨g, cap, cur, rfl, _⟩
  · exact ⟨none, 0, by rw [h0]⟩
  · exact ⟨_, _, rfl⟩
end Go.Proofs.YtkohjkjjkkkpoaaDoor
