/- The library's own sort of records by their keys: what lies there behind it. -/
import Derived.Test.YtjblhfhfappmoaaSortLaid
import Derived.Test.YtjblhfhfappmoaaStrComp
import Derived.Test.YtjblhfhfappmoaaRecs
namespace Go.Proofs.Ytjblhfhfappmoaa
open Go.RowKit Go.Sort Go.Shelf Go.Proofs

instance : Inhabited Rec := ⟨⟨0, 0, ⟨#[]⟩, ⟨#[]⟩, false⟩⟩
theorem lesser_any (w : World) (x y : Rec) : Calls Try.prog 21 #[.agg (recCells x).toArray, .agg (recCells y).toArray] w
    (fun e w' => e = .returned (.int .i64 (cmpS x.key y.key)) ∧ ∃ q os, w' = grow (w.drewN q) os) := by
  obtain ⟨ro, rt, rk, rv, rd⟩ := x
  obtain ⟨so, st, sk, sv, sd⟩ := y
  have HC := Lib.hid (scompare_any rk sk)
  unfold recCells
  dsimp only
  go_enter Try.func21, Try.ntmps21
  go_wp2_with fail
  refine (HC.out _).mono ?_
  rintro e w2 ⟨rfl, rfl⟩
  go_wp2
  go_ret
  exact ⟨rfl, 0, _, by rw [alloc_eq_grow, alloc_eq_grow, grow_grow]; rfl⟩
theorem cmp_lt (x y : Rec) : ltOf (fun x y : Rec => cmpS x.key y.key) x y = ltS x.key y.key := by
  unfold ltOf cmpS
  dsimp only
  split
  · next h => rw [h]; rfl
  · next h =>
    have h2 : ltS x.key y.key = false := by simpa using h
    rw [h2]
    split <;> rfl
theorem cmp_order : SWO (ltOf fun x y : Rec => cmpS x.key y.key) where
  irrefl x := by rw [cmp_lt]; exact ltS_self _
  trans x y z h1 h2 := by rw [cmp_lt] at *; exact ltS_trans h1 h2
  ntrans x y z h1 h2 := by
    rw [cmp_lt] at *
    cases h : ltS x.key z.key with
    | false => rfl
    | true =>
      rcases ltS_tri x.key y.key with e | e | e
      · rw [e] at h1; cases h1
      · rw [e, h2] at h; cases h
      · rw [ltS_trans e h] at h2; cases h2
theorem flat_recs (l : List Rec) : flatK recCells 5 l.toArray = (recsCells l).toArray := by
  refine ext_get! (by rw [size_flatK]; simp [recsCells_length]) fun t ht => ?_
  rw [size_flatK] at ht
  have ht' : t < l.length * 5 := by simpa using ht
  rw [get_flatK _ _ _ _ ht]
  have h1 : t / 5 < l.length := by omega
  have h2 : t % 5 < 5 := Nat.mod_lt _ (by decide)
  have h3 := recsCells_at l (t / 5) (t % 5) h1 h2
  rw [show t / 5 * 5 + t % 5 = t by omega] at h3
  have h4 : l.toArray[t / 5]! = l[t / 5] := by rw [getElem!_pos l.toArray (t / 5) (by simpa using h1)]; simp
  rw [h4]
  have h5 : t < (recsCells l).length := by rw [recsCells_length]; exact ht'
  rw [List.getElem?_eq_getElem h5, List.getElem?_eq_getElem (show t % 5 < (recCells l[t / 5]).length from h2)] at h3
  rw [getElem!_pos (recCells l[t / 5]) (t % 5) h2, getElem!_pos (recsCells l).toArray t (by simpa using h5)]
  rw [List.getElem_toArray]
  exact (Option.some.inj h3).symm
section
variable {w : World} {g : Nat} {cur : Array Value} {xs : List Value} {e : TypeId}
theorem vals_hold (hb : w.heap[g]? = some (.cells cur e (0, 0))) (ht : cur.toList.take xs.length = xs) : Holds id w g 0 xs.toArray := by
  intro j hj
  have hj' : j < xs.length := by simpa using hj
  refine ⟨?_, by simp [World.frozen?, hb]⟩
  have h1 : (cur.toList.take xs.length)[j]? = xs[j]? := by rw [ht]
  rw [List.getElem?_take_of_lt hj', Array.getElem?_toList] at h1
  unfold World.cell?
  rw [hb]
  simp [h1, hj']
theorem vals_heap {n : Nat} {os : Array Obj} (d : Array Value) (hb : w.heap[g]? = some (.cells cur e (0, 0))) :
    (grow (putRow id (Sort.ahead w n) g 0 d) os).heap[g]? = some (.cells (putCells id 0 d cur) e (0, 0)) := by
  have hg : g < w.heap.size := (Array.getElem?_eq_some_iff.1 hb).1
  rw [heap_grow_old _ _ (by simpa using hg)]
  simp [putRow, mapBlock, Sort.ahead, Array.getElem?_modify, hb, onCells]
theorem vals_grown {n : Nat} {os : Array Obj} (d : Array Value) : w.grownBy (grow (putRow id (Sort.ahead w n) g 0 d) os) (some g) := by
  refine ⟨rfl, rfl, rfl, by simp, fun k hk hne => ?_⟩
  rw [heap_grow_old _ _ (by simpa using hk)]
  have : g ≠ k := fun e => hne (by rw [e])
  simp [putRow, mapBlock, Sort.ahead, Array.getElem?_modify, this]
theorem vals_take (ys : List Value) (h : ys.length ≤ cur.size) : (putCells id 0 ys.toArray cur).toList.take ys.length = ys := by
  apply List.ext_getElem?
  intro j
  by_cases hj : j < ys.length
  · rw [List.getElem?_take_of_lt hj, Array.getElem?_toList]
    simp [putCells, hj, show j < cur.size by omega]
  · rw [List.getElem?_take_eq_none (by omega), List.getElem?_eq_none (by omega)]
end
theorem rec_agg (w : World) : (isAgg 32).run Try.prog w = .ok true w := Try.isAgg32 w
theorem rec_size (w : World) : (Go.sizeOf 32).run Try.prog w = .ok 5 w := Try.sizeOf32 w
theorem perm_whole {d d' : Array Rec} (h : PermIn 0 d.size d d') : d'.toList.Perm d.toList := by
  obtain ⟨h1, _, h2⟩ := h
  rw [show d'.extract 0 d.size = d' by rw [← h1]; simp, show d.extract 0 d.size = d by simp] at h2
  exact h2
theorem sorted_whole {d : Array Rec} {n : Nat} (hn : n = d.size) (h : SortedIn (ltOf fun x y : Rec => cmpS x.key y.key) 0 n d) : d.toList.Pairwise fun a b => ltS b.key a.key = false := by
  refine List.pairwise_iff_getElem.2 fun i j hi hj hij => ?_
  have := h i j (Nat.zero_le _) hij (by rw [hn]; simpa using hj)
  rw [cmp_lt, getElem!_pos d j (by simpa using hj), getElem!_pos d i (by simpa using hi)] at this
  simpa using this
set_option maxHeartbeats 1000000 in
theorem sort_any (w : World) (base g cap : Nat) (l : List Rec) (hown : OwnR w base (.slice (some ⟨g, 0, none⟩) l.length cap) l) (hl : l.length ≤ 1000000000) :
    Calls Try.prog 20 #[.slice (some ⟨g, 0, none⟩) l.length cap, .func (.func 21) #[] #[]] w (fun e w' => e = .returned (.tuple #[]) ∧
      ∃ l' : List Rec, l'.Perm l ∧ (l'.Pairwise fun a b => ltS b.key a.key = false) ∧ OwnR w' base (.slice (some ⟨g, 0, none⟩) l.length cap) l' ∧ w.grownBy w' (some g)) := by
  rcases hown.2 with ⟨h0, _⟩ | ⟨g', cap', cur, hv, hbg, hb, hc, hm, hs, ht⟩
  · cases h0
  obtain ⟨rfl, rfl⟩ : g = g' ∧ cap = cap' := by injection hv with e1 _ e2; injection e1 with e1; injection e1 with e1; exact ⟨e1, e2⟩
  have hH : HoldsK recCells 5 w g 0 l.toArray := by
    unfold HoldsK
    rw [flat_recs]
    exact vals_hold hb (by rw [recsCells_length]; exact ht)
  have hcon := AnyQ.slices_SortFunc sortRecs 5 rec_agg rec_size recCells (fun _ => rfl) (fun x v hv => recCells_one x v hv) (fun x y : Rec => cmpS x.key y.key) cmp_order 21 #[] g 0 cap l.toArray w
    (enters_of Try.func21 (by kernel_rfl) rfl) (fun _ _ _ _ x y => lesser_any _ x y) hH (Array.getElem?_eq_some_iff.1 hb).1 (by simp; omega)
  change Calls Try.prog 20 _ _ _ at hcon
  rw [show l.toArray.size = l.length from by simp] at hcon
  refine hcon.mono ?_
  rintro e w' ⟨rfl, d', n, os, hp, hso, rfl⟩
  have hp' := perm_whole (d := l.toArray) (by simpa using hp)
  have hd : d'.size = l.length := by have := hp.1; simpa using this
  have hlen : d'.toList.length = l.length := by simpa using hd
  have hfl : flatK recCells 5 d' = (recsCells d'.toList).toArray := by rw [← flat_recs]
  refine ⟨rfl, d'.toList, by simpa using hp', sorted_whole hd.symm hso, ?_, ?_⟩
  · unfold sortWorldK putRowK
    rw [hfl]
    refine ⟨by rw [recsCells_length], .inr ⟨g, cap, _, by rw [hlen], hbg, vals_heap _ hb, by rw [hlen]; exact hc, hm, by simp [putCells, hs], ?_⟩⟩
    rw [← recsCells_length]
    exact vals_take _ (by rw [recsCells_length, hlen, hs]; exact Nat.mul_le_mul_right 5 hc)
  · unfold sortWorldK putRowK
    rw [hfl]
    exact vals_grown _
end Go.Proofs.Ytjblhfhfappmoaa
