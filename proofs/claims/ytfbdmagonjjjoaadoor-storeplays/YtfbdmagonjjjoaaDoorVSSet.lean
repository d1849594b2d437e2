/- A store into the program's own map of objects; the bytes of a slice that lies anywhere, cloned. -/
import Derived.Test.YtfbdmagonjjjoaaDoorVSFail
import Derived.Test.YtfbdmagonjjjoaaDoorStoreNum
import Derived.Test.YtfbdmagonjjjoaaDoorCloneLaid
namespace Go.Proofs.YtfbdmagonjjjoaaDoor
open Go.RowKit Go.Maps

theorem bclone_lies (A : Option Addr) (xs : List Int) (c : Nat) (w : World) (hl : Lies .u8 w w.heap.size A xs) (hA : A = none → c = 0) (hc : xs.length ≤ c) (hb : xs.length ≤ 549755813888) :
    Calls Tryd.prog 28 #[.slice A xs.length c] w (NewBytes w xs) := by
  rcases A with _ | x
  · obtain rfl : c = 0 := hA rfl
    obtain rfl : xs = [] := List.eq_nil_of_length_eq_zero (by omega)
    exact bclone_nil w
  · exact bclone_some x xs c w hl hc hb

section
variable {base : Nat} {S : Nat → Prop} {w : World} {p : Nat} {room u : Int} {fs : List FileP} {bad : List Int}
/-- An object stored into the map, behind whatever new blocks. -/
theorem set_fin (hV : VStoreU base S w p room u fs bad) (n : ByteArray) (b : List Int) (hb255 : ∀ c ∈ b, 0 ≤ c ∧ c ≤ 255) (hn : n.size ≤ maxLen) (hlen : fs.length < 1000000000)
    (Wm : World) (mb : Nat) (fv : Value) (hk : Keep S w Wm) (bp : Wm.heap[p]? = some (.cells (storeCells room u (some mb) fv) 48 (0, 0))) (hmb : Grow S w Wm mb) (ho : Wm.ownsMap Tryd.prog 9 slElem mb fs.length (mapD fs))
    (hoth : ∀ i, i < w.heap.size → i ≠ p → Wm.heap[i]? = w.heap[i]?) (hfl : FailsLie S w fv bad) (W1 : World) (hb : Below Wm.heap.size Wm W1) (v : Value) (hv : Own .u8 5 W1 Wm.heap.size v b) :
    ∃ W2, (Instr.mapUpdate 46 (.map (some mb)) (.string n) v).run Tryd.prog W1 = .ok () W2 ∧
      W1.cell? ⟨p, 2, none⟩ = some (.map (some mb)) ∧ W2.cell? ⟨p, 2, none⟩ = some (.map (some mb)) ∧ W2.cell? ⟨p, 1, none⟩ = some (.int .i64 u) ∧ W2.frozen? ⟨p, 1, none⟩ = false ∧
      ∀ u', Left base S w (W2.setCell ⟨p, 1, none⟩ (.int .i64 u')) p room u' (layP fs ⟨⟨n, b, 0⟩, v⟩) bad := by
  have ho1 : W1.ownsMap Tryd.prog 9 slElem mb fs.length (mapD fs) := ownsMap_same ho (hb.block mb ho.lt)
  have hpl := hV.lt
  have hpm : p ≠ mb := map_apart bp ho
  obtain ⟨W2, hrun, ho2, ht⟩ := ho1.store keyedS Tryd.underlying46 (by unfold maxLen; omega) (keyOf_name hn) (show slElem v = some (.held v, []) from rfl)
  rw [map_put hV.row.rising ⟨⟨n, b, 0⟩, v⟩] at ho2
  have hgr := ht.grown
  have hsz1 := hb.size
  have hsz := hk.size
  have hsz2 := hgr.size
  have b1 : W1.heap[p]? = some (.cells (storeCells room u (some mb) fv) 48 (0, 0)) := by rw [hb.block p (by omega)]; exact bp
  have b2 : W2.heap[p]? = some (.cells (storeCells room u (some mb) fv) 48 (0, 0)) := by
    rw [hgr.block p (by omega) (fun e => hpm (by injection e))]
    exact b1
  have hmbW : ∀ i, some i = some mb → S i ∨ w.heap.size ≤ i := fun i hi => by
    injection hi with hi
    subst hi
    rcases hmb with h | h
    · exact .inl h
    · exact .inr h.1
  have hk1 : Keep S w W1 := hk.trans (S' := S) (Keep.of_below hb) fun _ _ h => h
  have hk2 : Keep S w W2 := hk1.grown hgr fun i hi => hmbW i hi.symm
  have same : ∀ i, i < w.heap.size → i ≠ p → i ≠ mb → W2.heap[i]? = w.heap[i]? := fun i h0 h1 h2 => by
    rw [hgr.block i (by omega) (fun e => h2 (by injection e)), hb.block i (by omega)]
    exact hoth i h0 h1
  have ntm : ∀ {i : Nat} {cs : Array Value} {t : TypeId}, i ≠ p → w.heap[i]? = some (.cells cs t (0, 0)) → i ≠ mb := fun {i cs t} h1 hi => by
    have hl := (Array.getElem?_eq_some_iff.1 hi).1
    exact map_apart (by rw [hoth i hl h1]; exact hi) ho
  obtain ⟨mo0, fv0, hp0, _, _⟩ := hV.block
  refine ⟨W2, hrun, by unfold World.cell?; rw [b1]; rfl, by unfold World.cell?; rw [b2]; rfl, by unfold World.cell?; rw [b2]; rfl, by simp [World.frozen?, b2], fun u' => ?_⟩
  have hk3 : Keep S w (W2.setCell ⟨p, 1, none⟩ (.int .i64 u')) := hk2.setCell (p := ⟨p, 1, none⟩) (.inl hV.inS) _
  have hb3 : (W2.setCell ⟨p, 1, none⟩ (.int .i64 u')).heap[p]? = some (.cells (storeCells room u' (some mb) fv) 48 (0, 0)) := by
    rw [Go.heap_setCell_same W2 p 1 _ _ _ b2]
    rfl
  have oth : ∀ i, i ≠ p → (W2.setCell ⟨p, 1, none⟩ (.int .i64 u')).heap[i]? = W2.heap[i]? := fun i hi => heap_setCell_other _ _ _ _ hi
  have fsame : ∀ y ∈ fs, ∀ g, y.v.ownBlock = some g → (W2.setCell ⟨p, 1, none⟩ (.int .i64 u')).heap[g]? = w.heap[g]? := fun y hy g hg => by
    obtain ⟨cur, hc⟩ := own_block (hV.row.file y hy).own hg
    have h2 := cells_apart hc hp0 (by decide)
    rw [oth g h2]
    exact same g (Array.getElem?_eq_some_iff.1 hc).1 h2 (ntm h2 hc)
  have hvb : ∀ g, v.ownBlock = some g → Wm.heap.size ≤ g ∧ g < W1.heap.size := fun g hg => hv.lt g hg
  have hmbl : mb < Wm.heap.size := ho.lt
  refine ⟨hk3, hV.within.grow hk3.size, .inl hV.inS, ⟨some mb, fv, hb3, .inr ⟨mb, rfl, ?_, ?_⟩, ?_⟩, fun y hy => ?_, ?_, ?_⟩
  · rcases hmb with h | h
    · exact .inl h
    · exact .inr ⟨h.1, by simp; omega⟩
  · exact ownsMap_same (ownsMap_size ho2) (oth mb hpm.symm)
  · refine hfl.same (fun _ => .inl) fun i cur hi hc => ?_
    have h2 := cells_apart hc hp0 (by decide)
    rw [oth i h2]
    exact same i (Array.getElem?_eq_some_iff.1 hc).1 h2 (ntm h2 hc)
  · rcases mem_layP hy with rfl | hy
    · refine ⟨?_, fun g hg => .inr ?_, ⟨hn, hb255, Nat.zero_le _⟩⟩
      · refine Own.same (w := W1) (hv.lower (by have := hV.within.1; omega)) fun g hg => ?_
        have := hvb g hg
        rw [oth g (by omega), hgr.block g this.2 (fun e => by injection e with e; omega)]
      · have := hvb g hg
        simp
        omega
    · exact (hV.row.file y hy).same (fun _ => .inl) (fsame y hy)
  · refine layP_pair (fun _ _ => Apart.symm) hV.row.rising hV.row.apart fun y hy _ g hg hg2 => ?_
    have h1 := hvb g hg
    have h2 := ((hV.row.file y hy).own.lt g hg2).2
    omega
  · exact layP_rising hV.row.rising
end
end Go.Proofs.YtfbdmagonjjjoaaDoor
