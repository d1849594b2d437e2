/- Plain mathematics of a store of objects that fails: what each call makes of the objects, and what a number of Fail makes of a call. No program is spoken of here. -/
import Derived.Test.YtfbdmagonjjjoaaDoorStoreMap
namespace Go.Proofs.YtfbdmagonjjjoaaDoor

/-- Put, where nothing fails. -/
def putM (room : Int) (l : List FileM) (n : ByteArray) (b : List Int) : List FileM × Int :=
  if validS n = false then (l, 6) else if room - ((usedM l : Int) - ((ofName l n).b.length : Int)) < (b.length : Int) then (l, 7)
  else (layF l ⟨n, b, 0⟩, 0)
/-- What a number of Fail makes of a call. -/
def faulty (k : Int) (l : List FileM) (r : List FileM × Int) : List FileM × Int :=
  if k = 0 then r else if k = 2 then (r.1, if r.2 = 0 then 9 else r.2) else (l, 9)
theorem faulty_0 (l : List FileM) (r : List FileM × Int) : faulty 0 l r = r := rfl
theorem faulty_2 (l : List FileM) (r : List FileM × Int) : faulty 2 l r = (r.1, if r.2 = 0 then 9 else r.2) := rfl
theorem faulty_no {k : Int} (h0 : k ≠ 0) (h2 : k ≠ 2) (l : List FileM) (r : List FileM × Int) : faulty k l r = (l, 9) := by unfold faulty; rw [if_neg h0, if_neg h2]
/-- What Get answers. -/
def faultyG (k : Int) (r : FileM × Int) : FileM × Int := if k = 0 then r else (noFile, if k = 2 then (if r.2 = 0 then 9 else r.2) else 9)
theorem ofName_has {fs : List FileP} (hr : Rising (filesP fs)) {x : FileP} (hx : x ∈ fs) : ofName (filesP fs) x.f.name = x.f := by
  have h1 : hasF (filesP fs) x.f.name = true := hasF_mem hr (List.mem_map.2 ⟨x, hx, rfl⟩)
  unfold ofName
  rw [if_pos h1, List.getElem?_eq_getElem (hasF_lt h1)]
  have h2 := hasF_name h1
  show (filesP fs)[findK (filesP fs) x.f.name]'(hasF_lt h1) = x.f
  have hm : (filesP fs)[findK (filesP fs) x.f.name]'(hasF_lt h1) ∈ filesP fs := List.getElem_mem _
  have hxm : x.f ∈ filesP fs := List.mem_map.2 ⟨x, hx, rfl⟩
  generalize (filesP fs)[findK (filesP fs) x.f.name]'(hasF_lt h1) = y at *
  clear h1
  generalize filesP fs = l at *
  induction l with
  | nil => cases hm
  | cons a t ih =>
    obtain ⟨r1, r2⟩ := List.pairwise_cons.1 hr
    rcases List.mem_cons.1 hm with e | hm2
    · rcases List.mem_cons.1 hxm with e2 | hx2
      · rw [e, e2]
      · exact absurd (by rw [← h2, e]) (ltS_ne (r1 _ hx2))
    · rcases List.mem_cons.1 hxm with e2 | hx2
      · exact absurd (by rw [h2, e2]) (ltS_ne (r1 _ hm2))
      · exact ih r2 hx2 hm2
theorem ofName_none {l : List FileM} {n : ByteArray} (h : hasF l n = false) : ofName l n = ⟨n, [], 0⟩ := by unfold ofName; rw [if_neg (by rw [h]; simp)]
end Go.Proofs.YtfbdmagonjjjoaaDoor
