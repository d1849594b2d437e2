/- A contract of the program's own set. -/
import Derived.Test.YtefjbefmmmllbaaDoorVDKeep
namespace Go.Proofs.YtefjbefmmmllbaaDoor
open Go.RowKit Go.Maps

section
variable {base : Nat} {S : Nat → Prop} {w : World} {p : Nat} {room u : Int} {fs : List FileP}
/-- A store into the files' map, behind whatever new blocks. -/
theorem set_fin (hV : VDiskU base S w p room u fs) (x : FileP) (hf : VFile base S w x) (ha : ∀ y ∈ fs, y.f.name ≠ x.f.name → Apart x y) (hn : x.f.name.size ≤ maxLen) (hlen : fs.length < 1000000000)
    (Wm : World) (mb : Nat) (hk : Keep S w Wm) (bp : Wm.heap[p]? = some (.cells (diskCells room u (some mb)) 44 (0, 0))) (hmb : Grow S w Wm mb) (ho : Wm.ownsMap Tryd.prog 9 ptrElem mb fs.length (mapD fs))
    (hoth : ∀ i, i < w.heap.size → i ≠ p → Wm.heap[i]? = w.heap[i]?) (W1 : World) (hb : Below Wm.heap.size Wm W1) :
    ∃ W2, (Instr.mapUpdate 42 (.map (some mb)) (.string x.f.name) (.pointer (some ⟨x.g, 0, none⟩))).run Tryd.prog W1 = .ok () W2 ∧
      (W1.cell? ⟨p, 2, none⟩ = some (.map (some mb)) ∧ W2.cell? ⟨p, 2, none⟩ = some (.map (some mb))) ∧ Keep S w W2 ∧ VDiskU base (Grow S w W2) W2 p room u (layP fs x) := by
  have ho1 : W1.ownsMap Tryd.prog 9 ptrElem mb fs.length (mapD fs) := ownsMap_same ho (hb.block mb ho.lt)
  have hpl := (hV.within.2 p hV.inS).2
  have hpm : p ≠ mb := map_apart bp ho
  obtain ⟨W2, hrun, ho2, ht⟩ := ho1.store keyedS Tryd.underlying42 (by unfold maxLen; omega) (keyOf_name hn) (ptrElem_mk x.g)
  rw [map_put hV.row.rising x] at ho2
  have hgr := ht.grown
  have hsz1 := hb.size
  have hsz := hk.size
  have b1 : W1.heap[p]? = some (.cells (diskCells room u (some mb)) 44 (0, 0)) := by rw [hb.block p (by omega)]; exact bp
  have b2 : W2.heap[p]? = some (.cells (diskCells room u (some mb)) 44 (0, 0)) := by
    rw [hgr.block p (by omega) (fun e => hpm (by injection e))]
    exact b1
  have hmbW : ∀ i, some i = some mb → S i ∨ w.heap.size ≤ i := fun i hi => by
    injection hi with hi
    subst hi
    rcases hmb with h | h
    · exact .inl h
    · exact .inr h.1
  have hk1 : Keep S w W1 := hk.trans (S' := S) (Keep.of_below hb) fun _ _ h => h
  have hk2 : Keep S w W2 := hk1.grown hgr fun i hi => hmbW i hi.symm
  have same : ∀ i, i < w.heap.size → i ≠ p → i ≠ mb → W2.heap[i]? = w.heap[i]? := fun i h0 h1 h2 => by
    rw [hgr.block i (by omega) (fun e => h2 (by injection e)), hb.block i (by omega)]
    exact hoth i h0 h1
  have ntm : ∀ {i : Nat} {cs : Array Value} {t : TypeId}, i ≠ p → w.heap[i]? = some (.cells cs t (0, 0)) → i ≠ mb := fun {i cs t} h1 hi => by
    have hl := (Array.getElem?_eq_some_iff.1 hi).1
    exact map_apart (by rw [hoth i hl h1]; exact hi) ho
  have fsame : ∀ y : FileP, VFile base S w y → W2.heap[y.g]? = w.heap[y.g]? ∧ ∀ g, y.v.ownBlock = some g → W2.heap[g]? = w.heap[g]? := fun y hy => by
    obtain ⟨mo, hp, _⟩ := hV.block
    have h1 := cells_apart hy.block hp (by decide)
    refine ⟨same _ (Array.getElem?_eq_some_iff.1 hy.block).1 h1 (ntm h1 hy.block), fun b hb => ?_⟩
    obtain ⟨cur, hc⟩ := own_block hy.own hb
    have h2 := cells_apart hc hp (by decide)
    exact same b (Array.getElem?_eq_some_iff.1 hc).1 h2 (ntm h2 hc)
  refine ⟨W2, hrun, ⟨?_, ?_⟩, hk2, hV.put x hk2 (fun y hy _ => fsame y (hV.row.file y hy)) (hf.same (fun _ => .inl) (fsame x hf).1 (fsame x hf).2) ha ⟨some mb, b2, .inr ⟨mb, rfl, ?_, ownsMap_size ho2⟩⟩⟩
  · unfold World.cell?; rw [b1]; rfl
  · unfold World.cell?; rw [b2]; rfl
  · rcases hmb with h | h
    · exact .inl h
    · exact .inr ⟨h.1, by have := hgr.size; omega⟩

set_option maxHeartbeats 1600000 in
set_option maxRecDepth 4000 in
theorem vset_any (hV : VDiskU base S w p room u fs) (x : FileP) (hf : VFile base S w x) (ha : ∀ y ∈ fs, y.f.name ≠ x.f.name → Apart x y) (hn : x.f.name.size ≤ 281474976710656) (hlen : fs.length < 1000000000) :
    Calls Tryd.prog 15 #[.pointer (some ⟨p, 0, none⟩), .string x.f.name, .pointer (some ⟨x.g, 0, none⟩)] w fun e w' => e = .returned (.tuple #[]) ∧ Keep S w w' ∧ VDiskU base (Grow S w w') w' p room u (layP fs x) := by
  have hnm : x.f.name.size ≤ maxLen := by unfold maxLen; omega
  obtain ⟨mo, hp, hm⟩ := hV.block
  have c2 : w.cell? ⟨p, 2, none⟩ = some (.map mo) := by unfold World.cell?; rw [hp]; rfl
  have z2 := hV.thaw 2
  have hpl := (hV.within.2 p hV.inS).2
  have HCL := Lib.hid (fun W => sclone_any x.f.name W hn)
  rcases hm with ⟨rfl, hfs⟩ | ⟨mb, rfl, h2, h3⟩
  · have hpa : (w.alloc (.map #[] 0)).heap[p]? = some (.cells (diskCells room u none) 44 (0, 0)) := by rw [Below.heap_alloc _ _ p hpl]; exact hp
    have hkm : Keep S w ((w.alloc (.map #[] 0)).setCell ⟨p, 2, none⟩ (.map (some w.heap.size))) := ((Keep.refl S w).alloc _).setCell (p := ⟨p, 2, none⟩) (.inl hV.inS) _
    have hset := fun W1 => set_fin hV x hf ha hnm hlen ((w.alloc (.map #[] 0)).setCell ⟨p, 2, none⟩ (.map (some w.heap.size))) w.heap.size hkm (by
        rw [heap_setCell_same _ p 2 _ _ _ hpa]
        rfl) (.inr ⟨Nat.le_refl _, by simp⟩) (by
        rw [hfs]
        exact (World.ownsMap_made (H := Unit) w Tryd.prog 9 ptrElem).setCell (a := ⟨p, 2, none⟩) (by show w.heap.size ≠ p; omega) _) (fun i h0 h1 => by rw [heap_setCell_other _ _ _ _ h1, Below.heap_alloc _ _ i h0]) W1
    have hHeld : ((w.alloc (.map #[] 0)).setCell ⟨p, 2, none⟩ (.map (some w.heap.size))).drew.cell? ⟨p, 2, none⟩ = some (.map (some w.heap.size)) := by
      show ((w.alloc (.map #[] 0)).setCell ⟨p, 2, none⟩ (.map (some w.heap.size))).cell? ⟨p, 2, none⟩ = _
      unfold World.cell?
      rw [heap_setCell_same _ p 2 _ _ _ hpa]
      rfl
    have ST := Lib.hid hset
    have hmm := @run_makeMap Tryd.prog
    have c2a : (w.alloc (.map #[] 0)).cell? ⟨p, 2, none⟩ = some (.map none) := by unfold World.cell?; rw [hpa]; rfl
    have z2a : (w.alloc (.map #[] 0)).frozen? ⟨p, 2, none⟩ = false := by simp [World.frozen?, hpa]
    have hq : ∀ W : World, (binOp .eql 42 (.map none) (.map none)).run Tryd.prog W = .ok (.bool true) W := fun W => run_eql_map_nil W _ 9 48 none Tryd.underlying42
    clear hset hkm hV hf ha hn hnm hp hpl hpa
    obtain ⟨nm, hnmq⟩ : ∃ nm, x.f.name = nm := ⟨_, rfl⟩
    obtain ⟨g, hgq⟩ : ∃ g, x.g = g := ⟨_, rfl⟩
    rw [hnmq] at HCL ST ⊢
    rw [hgq] at ST ⊢
    obtain ⟨mb, hmb⟩ : ∃ mb, w.heap.size = mb := ⟨_, rfl⟩
    rw [hmb] at ST hHeld
    clear hnmq hgq hfs
    go_enter Tryd.func15, Tryd.ntmps15
    go_wp2_with fail
    generalize hWm : ((w.alloc (.map #[] 0)).setCell ⟨p, 2, none⟩ (.map (some mb))) = Wm at *
    clear c2 z2 c2a z2a hmm hWm hmb
    go_wp2_with fail
    refine wp_region_held_drew (S := fun W => W.cell? ⟨p, 2, none⟩ = some (.map (some mb))) (by kernel_rfl) hHeld (fun hHeld => ?_)
    refine held_take 0 15 (v := ?v1) rfl rfl (by kernel_rfl) (by kernel_rfl) (by kernel_rfl) (fun _ _ _ h => h) hHeld (Or.inl ⟨by rfl, ?y1⟩) ?r1
    case y1 => intro w hSw; (try dsimp only at hSw); go_simp; (try with_reducible rfl)
    simp only [List.setIfInBounds_toArray, List.set_cons_zero, List.set_cons_succ]
    refine held_take 1 16 (v := ?v2) rfl rfl (by kernel_rfl) (by kernel_rfl) (by kernel_rfl) (fun _ _ _ h => h) hHeld (Or.inl ⟨by rfl, ?y2⟩) ?r2
    case y2 => intro w hSw; (try dsimp only at hSw); go_simp; (try with_reducible rfl)
    simp only [List.setIfInBounds_toArray, List.set_cons_zero, List.set_cons_succ]
    refine held_take 2 17 (v := ?v3) rfl rfl (by kernel_rfl) (by kernel_rfl) (by kernel_rfl) (fun _ _ _ h => h) hHeld (Or.inl ⟨by rfl, ?y3⟩) ?r3
    case y3 => intro w hSw; (try dsimp only at hSw); go_simp; (try with_reducible rfl)
    simp only [List.setIfInBounds_toArray, List.set_cons_zero, List.set_cons_succ]
    refine held_take 3 18 (v := ?v4) rfl rfl (by kernel_rfl) (by kernel_rfl) (by kernel_rfl) (fun _ _ _ h => h) hHeld (Or.inl ⟨by rfl, ?y4⟩) ?r4
    case y4 => intro w hSw; (try dsimp only at hSw); go_simp; (try with_reducible rfl)
    simp only [List.setIfInBounds_toArray, List.set_cons_zero, List.set_cons_succ]
    refine held_take 4 19 (v := ?v5) rfl rfl (by kernel_rfl) (by kernel_rfl) (by kernel_rfl) (fun _ _ _ h => h) hHeld (Or.inl ⟨by rfl, ?y5⟩) ?r5
    case y5 => intro w hSw; (try dsimp only at hSw); go_simp; (try with_reducible rfl)
    simp only [List.setIfInBounds_toArray, List.set_cons_zero, List.set_cons_succ]
    refine held_take 6 21 (v := ?v6) rfl rfl (by kernel_rfl) (by kernel_rfl) (by kernel_rfl) (fun _ _ _ h => h) hHeld (Or.inl ⟨by rfl, ?y6⟩) ?r6
    case y6 => intro w hSw; (try dsimp only at hSw); go_simp; (try with_reducible rfl)
    simp only [List.setIfInBounds_toArray, List.set_cons_zero, List.set_cons_succ]
    refine wpAnyH_ready (rs := [5]) (by kernel_rfl) (by simp) ?_
    refine AllReadyH.cons rfl (fun K hK => ?_) AllReadyH.nil
    go_simp
    refine (HCL.out _).mono ?_
    rintro e w5 ⟨rfl, hb5d⟩
    have hb5 : Below Wm.heap.size Wm w5 := below_undrew hb5d
    obtain ⟨W2, hup, hcel, FIN⟩ := ST.out w5 hb5
    refine hK.out _ _ hcel.1 (fun _ => ?_)
    clear hK K hHeld hb5d
    have hHeld := hcel.1
    refine wpAnyH_ready (rs := [7]) (by kernel_rfl) (by simp) ?_
    refine AllReadyH.cons rfl (fun K hK => ?_) AllReadyH.nil
    go_simp
    refine hK.out _ _ hcel.2 (fun _ => ?_)
    clear hK K hHeld
    refine wpAnyH_done (by kernel_rfl) ?_ _
    go_wp2
    go_end0
    exact ⟨rfl, FIN⟩
  · have hset := fun W1 => set_fin hV x hf ha hnm hlen w mb (Keep.refl S w) hp (.inl h2) h3 (fun _ _ _ => rfl) W1
    have ST := Lib.hid hset
    have hHeld : w.drew.cell? ⟨p, 2, none⟩ = some (.map (some mb)) := c2
    have hq : ∀ W : World, (binOp .eql 42 (.map (some mb)) (.map none)).run Tryd.prog W = .ok (.bool false) W := fun W => run_eql_map_nil W _ 9 48 (some mb) Tryd.underlying42
    clear hset hV hf ha hn hnm hp hpl z2 h2 h3
    obtain ⟨nm, hnmq⟩ : ∃ nm, x.f.name = nm := ⟨_, rfl⟩
    obtain ⟨g, hgq⟩ : ∃ g, x.g = g := ⟨_, rfl⟩
    rw [hnmq] at HCL ST ⊢
    rw [hgq] at ST ⊢
    clear hnmq hgq
    obtain ⟨Wm, rfl⟩ : ∃ Wm, w = Wm := ⟨_, rfl⟩
    go_enter Tryd.func15, Tryd.ntmps15
    go_wp2_with fail
    refine wp_region_held_drew (S := fun W => W.cell? ⟨p, 2, none⟩ = some (.map (some mb))) (by kernel_rfl) hHeld (fun hHeld => ?_)
    refine held_take 0 15 (v := ?v11) rfl rfl (by kernel_rfl) (by kernel_rfl) (by kernel_rfl) (fun _ _ _ h => h) hHeld (Or.inl ⟨by rfl, ?y11⟩) ?r11
    case y11 => intro w hSw; (try dsimp only at hSw); go_simp; (try with_reducible rfl)
    simp only [List.setIfInBounds_toArray, List.set_cons_zero, List.set_cons_succ]
    refine held_take 1 16 (v := ?v12) rfl rfl (by kernel_rfl) (by kernel_rfl) (by kernel_rfl) (fun _ _ _ h => h) hHeld (Or.inl ⟨by rfl, ?y12⟩) ?r12
    case y12 => intro w hSw; (try dsimp only at hSw); go_simp; (try with_reducible rfl)
    simp only [List.setIfInBounds_toArray, List.set_cons_zero, List.set_cons_succ]
    refine held_take 2 17 (v := ?v13) rfl rfl (by kernel_rfl) (by kernel_rfl) (by kernel_rfl) (fun _ _ _ h => h) hHeld (Or.inl ⟨by rfl, ?y13⟩) ?r13
    case y13 => intro w hSw; (try dsimp only at hSw); go_simp; (try with_reducible rfl)
    simp only [List.setIfInBounds_toArray, List.set_cons_zero, List.set_cons_succ]
    refine held_take 3 18 (v := ?v14) rfl rfl (by kernel_rfl) (by kernel_rfl) (by kernel_rfl) (fun _ _ _ h => h) hHeld (Or.inl ⟨by rfl, ?y14⟩) ?r14
    case y14 => intro w hSw; (try dsimp only at hSw); go_simp; (try with_reducible rfl)
    simp only [List.setIfInBounds_toArray, List.set_cons_zero, List.set_cons_succ]
    refine held_take 4 19 (v := ?v15) rfl rfl (by kernel_rfl) (by kernel_rfl) (by kernel_rfl) (fun _ _ _ h => h) hHeld (Or.inl ⟨by rfl, ?y15⟩) ?r15
    case y15 => intro w hSw; (try dsimp only at hSw); go_simp; (try with_reducible rfl)
    simp only [List.setIfInBounds_toArray, List.set_cons_zero, List.set_cons_succ]
    refine held_take 6 21 (v := ?v16) rfl rfl (by kernel_rfl) (by kernel_rfl) (by kernel_rfl) (fun _ _ _ h => h) hHeld (Or.inl ⟨by rfl, ?y16⟩) ?r16
    case y16 => intro w hSw; (try dsimp only at hSw); go_simp; (try with_reducible rfl)
    simp only [List.setIfInBounds_toArray, List.set_cons_zero, List.set_cons_succ]
    refine wpAnyH_ready (rs := [5]) (by kernel_rfl) (by simp) ?_
    refine AllReadyH.cons rfl (fun K hK => ?_) AllReadyH.nil
    go_simp
    refine (HCL.out _).mono ?_
    rintro e w5 ⟨rfl, hb5d⟩
    have hb5 : Below w.heap.size w w5 := below_undrew hb5d
    obtain ⟨W2, hup, hcel, FIN⟩ := ST.out w5 hb5
    refine hK.out _ _ hcel.1 (fun _ => ?_)
    clear hK K hHeld hb5d
    have hHeld := hcel.1
    refine wpAnyH_ready (rs := [7]) (by kernel_rfl) (by simp) ?_
    refine AllReadyH.cons rfl (fun K hK => ?_) AllReadyH.nil
    go_simp
    refine hK.out _ _ hcel.2 (fun _ => ?_)
    clear hK K hHeld
    refine wpAnyH_done (by kernel_rfl) ?_ _
    go_wp2
    go_end0
    exact ⟨rfl, FIN⟩
end
end Go.Proofs.YtefjbefmmmllbaaDoor
