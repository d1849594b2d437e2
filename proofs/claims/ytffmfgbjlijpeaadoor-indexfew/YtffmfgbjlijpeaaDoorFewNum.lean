/- What IndexFew asks of marks, as plain mathematics. -/
import Derived.Test.YtffmfgbjlijpeaaDoorNums
import Derived.Test.YtffmfgbjlijpeaaDoorSegTorn
namespace Go.Proofs.YtffmfgbjlijpeaaDoor

theorem few_facts (G : List Rec) (hR : ∀ r ∈ G, r.right) (E : Nat) (hE : 0 < E) (MS : List MarkM) (hMS : makeM E G = MS) : MS.length = (G.length + E - 1) / E ∧ ∀ i (h : i < MS.length), ∃ h' : i * E < G.length,
    MS[i].off = G[i * E].off ∧ (i = 0 → MS[i].pos = 0 ∧ MS[i].time = -1099511627777) ∧
    ∀ j (hj : i = j + 1), (MS[j]'(by omega)).pos < MS[i].pos ∧ (MS[j]'(by omega)).time ≤ MS[i].time := by
  subst hMS
  obtain ⟨h1, h2⟩ := makeM_at hE G
  refine ⟨h1, fun i h => ?_⟩
  obtain ⟨h', e⟩ := h2 i h
  refine ⟨h', by rw [e]; rfl, fun h0 => ?_, fun j hj => ?_⟩
  · rw [e]
    subst h0
    simp [markAt, segF, mostT, leastT]
  · subst hj
    obtain ⟨h3, e3⟩ := h2 j (by omega)
    rw [e, e3]
    have hlt : j * E < (j + 1) * E := by rw [Nat.add_mul]; omega
    refine ⟨?_, mostT_mono G (Nat.le_of_lt hlt)⟩
    have := segF_less G hR hlt (by omega)
    show (((segF (G.take (j * E))).length : Nat) : Int) < ((segF (G.take ((j + 1) * E))).length : Nat)
    omega
end Go.Proofs.YtffmfgbjlijpeaaDoor
