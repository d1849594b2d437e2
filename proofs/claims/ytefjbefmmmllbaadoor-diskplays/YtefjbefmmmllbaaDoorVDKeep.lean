/- Contracts of the program's own keep, drop and set. -/
import Derived.Test.YtefjbefmmmllbaaDoorVDFind
import Derived.StillTailTactics
namespace Go.Proofs.YtefjbefmmmllbaaDoor
open Go.RowKit Go.Maps

section
variable {base : Nat} {S : Nat → Prop} {w : World} {p : Nat} {room u : Int} {fs : List FileP}
theorem VDiskU.thaw (hV : VDiskU base S w p room u fs) (i : Nat) : w.frozen? ⟨p, i, none⟩ = false := by
  obtain ⟨mo, hp, _⟩ := hV.block
  simp [World.frozen?, hp]
theorem VFile.thaw {x : FileP} (h : VFile base S w x) (i : Nat) : w.frozen? ⟨x.g, i, none⟩ = false := by
  have := h.block
  simp [World.frozen?, this]

theorem wrap_in (n : Int) (h : -9223372036854775808 ≤ n ∧ n ≤ 9223372036854775807) : IntKind.i64.wrap n = n := by
  rw [IntKind.wrap_i64]
  omega
/-- The first n bytes of a row that is owned. -/
theorem Own.front {v : Value} {xs : List Int} (h : Own .u8 5 w base v xs) {A : Option Addr} {c : Nat} (hv : v = .slice A xs.length c) (n : Nat) (hn : n ≤ xs.length) : Own .u8 5 w base (.slice A n c) (xs.take n) ∧ (Value.slice A n c).ownBlock = v.ownBlock := by
  have hl : (xs.take n).length = n := by rw [List.length_take]; omega
  rcases h.2 with ⟨rfl, h0⟩ | ⟨g, cap, cur, rfl, h1, h2, h3, h4, h5, h6⟩
  · injection hv with e1 e2 e3
    subst e1 e3
    have : n = 0 := by omega
    subst this
    exact ⟨⟨by simp, .inl ⟨rfl, by simp⟩⟩, rfl⟩
  · injection hv with e1 e2 e3
    subst e1 e3
    refine ⟨⟨by simp, .inr ⟨g, cap, cur, by rw [hl], h1, h2, by omega, h4, h5, ?_⟩⟩, rfl⟩
    rw [hl, List.map_take, ← h6, List.take_take]
    congr 1
    omega
/-- What keep makes of a file. -/
def kept (x : FileP) (n : Nat) (v : Value) : FileP := ⟨⟨x.f.name, x.f.b.take n, 0⟩, x.g, v⟩
set_option maxHeartbeats 1600000 in
set_option maxRecDepth 4000 in
theorem vkeep_any (hV : VDiskU base S w p room u fs) {x : FileP} (hx : x ∈ fs) (n : Nat) (hn : n ≤ x.f.b.length) (hu0 : 0 ≤ u) (hu1 : u ≤ 4611686018427387904) (hl : x.f.b.length ≤ 1099511627776) :
    Calls Tryd.prog 35 #[.pointer (some ⟨p, 0, none⟩), .pointer (some ⟨x.g, 0, none⟩), .int .i64 (n : Int)] w fun e w' => e = .returned (.tuple #[]) ∧ Keep S w w' ∧
      ∃ v, VDiskU base (Grow S w w') w' p room (u - ((x.f.b.length : Int) - (n : Int))) (layP fs (kept x n v)) := by
  obtain ⟨mo, hp, hm⟩ := hV.block
  have hf := hV.row.file x hx
  have hfb := hf.block
  obtain ⟨mo', _, c1, _, _⟩ := hV.cells
  obtain ⟨d0, d1⟩ := hf.cells
  obtain ⟨A, c, hv, hl1, hl2⟩ := hf.own.form
  have z1 := hV.thaw 1
  have y0 := hf.thaw 0
  have y1 := hf.thaw 1
  have hne : p ≠ x.g := cells_apart hp hfb (by decide)
  obtain ⟨ofr, ofb⟩ := hf.own.front hv n hn
  obtain ⟨L, hL⟩ : ∃ L, x.f.b.length = L := ⟨_, rfl⟩
  obtain ⟨M, hM⟩ : ∃ M, x.f.b.length - x.f.loose = M := ⟨_, rfl⟩
  obtain ⟨g, hg⟩ : ∃ g, x.g = g := ⟨_, rfl⟩
  have fin : ∀ w', w' = ((w.drew.setCell ⟨p, 1, none⟩ (.int .i64 (u - ((L : Int) - (n : Int))))).setCell ⟨g, 0, none⟩ (.slice A n c)).setCell ⟨g, 1, none⟩ (.int .i64 (n : Int)) → Keep S w w' ∧
      ∃ v, VDiskU base (Grow S w w') w' p room (u - ((L : Int) - (n : Int))) (layP fs (kept x n v)) := by
    rintro w' rfl
    subst hg hL
    have hk : Keep S w (((w.drew.setCell ⟨p, 1, none⟩ (.int .i64 (u - ((x.f.b.length : Int) - (n : Int))))).setCell ⟨x.g, 0, none⟩ (.slice A n c)).setCell ⟨x.g, 1, none⟩ (.int .i64 (n : Int))) :=
      (((Keep.refl S w).drew.setCell (p := ⟨p, 1, none⟩) (.inl hV.inS) _).setCell (p := ⟨x.g, 0, none⟩) (.inl hf.inS) _).setCell (p := ⟨x.g, 1, none⟩) (.inl hf.inS) _
    generalize hW : ((w.drew.setCell ⟨p, 1, none⟩ (.int .i64 (u - ((x.f.b.length : Int) - (n : Int))))).setCell ⟨x.g, 0, none⟩ (.slice A n c)).setCell ⟨x.g, 1, none⟩ (.int .i64 (n : Int)) = w' at hk ⊢
    have oth : ∀ i, i ≠ p → i ≠ x.g → w'.heap[i]? = w.heap[i]? := fun i h1 h2 => by
      rw [← hW, heap_setCell_other _ _ _ _ h2, heap_setCell_other _ _ _ _ h2, heap_setCell_other _ _ _ _ h1]
      rfl
    have bp : w'.heap[p]? = some (.cells (diskCells room (u - ((x.f.b.length : Int) - (n : Int))) mo) 44 (0, 0)) := by
      rw [← hW, heap_setCell_other _ _ _ _ hne, heap_setCell_other _ _ _ _ hne, heap_setCell_same w.drew p 1 _ _ _ hp]
      rfl
    have bg : w'.heap[x.g]? = some (.cells #[.slice A n c, .int .i64 (n : Int)] 52 (0, 0)) := by
      have h1 : (w.drew.setCell ⟨p, 1, none⟩ (.int .i64 (u - ((x.f.b.length : Int) - (n : Int))))).heap[x.g]? = some (.cells (fileCells x) 52 (0, 0)) := by
        rw [heap_setCell_other _ _ _ _ hne.symm]
        exact hfb
      rw [← hW, heap_setCell_same _ x.g 1 _ _ _ (heap_setCell_same _ x.g 0 _ _ _ h1)]
      rfl
    have row5 : ∀ {y : FileP}, y ∈ fs → ∀ b, y.v.ownBlock = some b → w'.heap[b]? = w.heap[b]? := fun {y} hy b hb => by
      obtain ⟨cur, hc⟩ := own_block (hV.row.file y hy).own hb
      exact oth b (cells_apart hc hp (by decide)) (cells_apart hc hfb (by decide))
    refine ⟨hk, .slice A n c, hV.put _ hk (fun y hy hnm => ?_) ?_ (fun y hy hnm => ?_) ⟨mo, bp, ?_⟩⟩
    · have ha := apart_of hV.row hx hy hnm
      exact ⟨oth _ (cells_apart (hV.row.file y hy).block hp (by decide)) (fun e => ha.1 e.symm), row5 hy⟩
    · refine ⟨.inl hf.inS, ?_, ofr.same fun b hb => row5 hx b (by rw [← ofb]; exact hb), fun b hb => .inl (hf.row b (by rw [← ofb]; exact hb)), hf.wf.1, fun c hc => hf.wf.2.1 c (List.mem_of_mem_take hc), Nat.zero_le _⟩
      have : ((x.f.b.take n).length - 0 : Nat) = n := by rw [List.length_take]; omega
      show _ = some (Obj.cells #[Value.slice A n c, .int .i64 (((x.f.b.take n).length - 0 : Nat) : Int)] _ _)
      rw [this]
      exact bg
    · have ha := apart_of hV.row hx hy hnm
      exact ⟨ha.1, fun b hb => ha.2 b (by rw [← ofb]; exact hb)⟩
    · refine MapF.same (x := x) ?_ hV.row.rising hx rfl rfl
      rcases hm with hm | ⟨mb, h1, h2, h3⟩
      · exact .inl hm
      · exact .inr ⟨mb, h1, .inl h2, ownsMap_same h3 (oth mb (fun e => map_apart hp h3 e.symm) (fun e => map_apart hfb h3 e.symm))⟩
  have FIN := Lib.hid fin
  rw [hv, hL] at d0
  rw [hM] at d1
  rw [hL] at hl hn ⊢
  rw [hg] at d0 d1 y0 y1 hne ⊢
  have hnc : n ≤ c := by omega
  unfold maxLen at hl2
  clear fin hV hp hm hf hfb hv hL hM hg ofr ofb hx
  go_enter Tryd.func35, Tryd.ntmps35
  go_wp2_with fail
  go_still_tail 14, (by kernel_rfl)
  rw [wrap_in ((L : Int) - (n : Int)) (by omega), wrap_in (u - ((L : Int) - (n : Int))) (by omega)]
  obtain ⟨u', hu'⟩ : ∃ u', u - ((L : Int) - (n : Int)) = u' := ⟨_, rfl⟩
  rw [hu'] at FIN ⊢
  change wpList _ _ _ _ _ w.drew
  have c1' : w.drew.cell? ⟨p, 1, none⟩ = some (.int .i64 u) := c1
  have d0' : w.drew.cell? ⟨g, 0, none⟩ = some (.slice A L c) := d0
  have d1' : w.drew.cell? ⟨g, 1, none⟩ = some (.int .i64 M) := d1
  have z1' : w.drew.frozen? ⟨p, 1, none⟩ = false := z1
  have y0' : w.drew.frozen? ⟨g, 0, none⟩ = false := y0
  have y1' : w.drew.frozen? ⟨g, 1, none⟩ = false := y1
  clear c1 d0 d1 z1 y0 y1 hu0 hu1
  generalize w.drew = w0 at *
  have hne2 : g ≠ p := hne.symm
  go_wp2
  go_end0
  exact ⟨rfl, by rw [hu']; exact FIN.out _ rfl⟩

/-- delete of a name, when it is there. -/
theorem MapF.strike {mo : Option Nat} (h : MapF S w mo fs) (hr : Rising (filesP fs)) {n : ByteArray} (hn : n.size ≤ maxLen) (hh : hasF (filesP fs) n = true) (ty : TypeId) :
    ∃ mb w', mo = some mb ∧ S mb ∧ (Builtin.delete_ #[42, 9] ty #[.map mo, .string n]).run Tryd.prog w = .ok (.tuple #[]) w' ∧ w.mapTurned w' mb ∧ w'.ownsMap Tryd.prog 9 ptrElem mb (delP fs n).length (mapD (delP fs n)) := by
  rcases h with ⟨rfl, rfl⟩ | ⟨mb, rfl, h2, h3⟩
  · cases hh
  · obtain ⟨w', hrun, ho, ht⟩ := h3.drop keyedS Tryd.underlying42 (keyOf_name hn) ty
    rw [map_del hr hh] at ho
    exact ⟨mb, w', rfl, h2, hrun, ht, ownsMap_size ho⟩
set_option maxHeartbeats 1600000 in
set_option maxRecDepth 4000 in
theorem vdrop_some (hV : VDiskU base S w p room u fs) {x : FileP} (hx : x ∈ fs) (n : ByteArray) (hxn : x.f.name = n) (hn : n.size ≤ maxLen) (hu0 : 0 ≤ u) (hu1 : u ≤ 4611686018427387904) (hl : x.f.b.length ≤ 1099511627776) :
    Calls Tryd.prog 43 #[.pointer (some ⟨p, 0, none⟩), .string n] w fun e w' => e = .returned (.tuple #[]) ∧ Keep S w w' ∧ (∀ y ∈ fs, w'.heap[y.g]? = w.heap[y.g]? ∧ ∀ g, y.v.ownBlock = some g → w'.heap[g]? = w.heap[g]?) ∧
      VDiskU base (Grow S w w') w' p room (u - (x.f.b.length : Int)) (delP fs n) := by
  obtain ⟨mo, hp, hm⟩ := hV.block
  have hf := hV.row.file x hx
  obtain ⟨mo', _, c1, c2, _⟩ := hV.cells
  obtain rfl : mo' = mo := by
    unfold World.cell? at c2
    rw [hp] at c2
    simpa [diskCells] using c2.symm
  obtain ⟨d0, _⟩ := hf.cells
  obtain ⟨A, c, hv, hl1, hl2⟩ := hf.own.form
  have z1 := hV.thaw 1
  have hlk := (hm.look hV.row.rising hn).1 x hx hxn
  have hhas : hasF (filesP fs) n = true := by rw [← hxn]; exact file_has hV.row.rising hx
  obtain ⟨L, hL⟩ : ∃ L, x.f.b.length = L := ⟨_, rfl⟩
  obtain ⟨g, hg⟩ : ∃ g, x.g = g := ⟨_, rfl⟩
  have fin : ∃ w', (∀ ty, (Builtin.delete_ #[42, 9] ty #[.map mo', .string n]).run Tryd.prog (w.drew.setCell ⟨p, 1, none⟩ (.int .i64 (u - (L : Int)))) = .ok (.tuple #[]) w') ∧ Keep S w w' ∧ (∀ y ∈ fs, w'.heap[y.g]? = w.heap[y.g]? ∧ ∀ g, y.v.ownBlock = some g → w'.heap[g]? = w.heap[g]?) ∧
      VDiskU base (Grow S w w') w' p room (u - (L : Int)) (delP fs n) := by
    have hm1 : MapF S (w.drew.setCell ⟨p, 1, none⟩ (.int .i64 (u - (L : Int)))) mo' fs := by
      rcases hm with hm | ⟨mb, h1, h2, h3⟩
      · exact .inl hm
      · exact .inr ⟨mb, h1, h2, h3.setCell (a := ⟨p, 1, none⟩) (w := w.drew) (fun e => map_apart hp h3 e.symm) _⟩
    obtain ⟨mb, w', hmo, hS, hrun, ht, ho⟩ := hm1.strike hV.row.rising hn hhas 0
    have hgr := ht.grown
    have hpm : p ≠ mb := by
      rcases hm with ⟨h1, _⟩ | ⟨mb', h1, h2, h3⟩
      · rw [h1] at hmo; cases hmo
      · obtain rfl : mb' = mb := by rw [h1] at hmo; injection hmo
        exact map_apart hp h3
    have hsz : (w.drew.setCell ⟨p, 1, none⟩ (.int .i64 (u - (L : Int)))).heap.size = w.heap.size := by simp
    have oth : ∀ i, i < w.heap.size → i ≠ p → i ≠ mb → w'.heap[i]? = w.heap[i]? := fun i h0 h1 h2 => by
      rw [hgr.block i (by omega) (fun e => h2 (by injection e)), heap_setCell_other _ _ _ _ h1]
      rfl
    have hk : Keep S w w' := ((Keep.refl S w).drew.setCell (p := ⟨p, 1, none⟩) (.inl hV.inS) _).grown hgr fun k hk => .inl (by injection hk with hk; rw [← hk]; exact hS)
    have bp : w'.heap[p]? = some (.cells (diskCells room (u - (L : Int)) mo') 44 (0, 0)) := by
      rw [hgr.block p (by rw [hsz]; exact (hV.within.2 p hV.inS).2) (fun e => hpm (by injection e)), heap_setCell_same w.drew p 1 _ _ _ hp]
      rfl
    have ntm : ∀ {i : Nat} {cs : Array Value} {t : TypeId}, w.heap[i]? = some (.cells cs t (0, 0)) → i ≠ mb := fun {i cs t} hi => by
      rcases hm with ⟨h1, _⟩ | ⟨mb', h1, h2, h3⟩
      · rw [h1] at hmo; cases hmo
      · obtain rfl : mb' = mb := by rw [h1] at hmo; injection hmo
        exact map_apart hi h3
    have hoy : ∀ y ∈ fs, w'.heap[y.g]? = w.heap[y.g]? ∧ ∀ g, y.v.ownBlock = some g → w'.heap[g]? = w.heap[g]? := fun y hy => by
      have hy' := hV.row.file y hy
      refine ⟨oth _ (Array.getElem?_eq_some_iff.1 hy'.block).1 (cells_apart hy'.block hp (by decide)) (ntm hy'.block), fun b hb => ?_⟩
      obtain ⟨cur, hc⟩ := own_block hy'.own hb
      exact oth b (Array.getElem?_eq_some_iff.1 hc).1 (cells_apart hc hp (by decide)) (ntm hc)
    refine ⟨w', fun ty => ?_, hk, hoy, hV.del hk hoy ⟨mo', bp, .inr ⟨mb, hmo, .inl hS, ho⟩⟩⟩
    exact hrun
  obtain ⟨w', hdel, fin⟩ := fin
  have FIN := Lib.hid fin
  rw [hv, hL] at d0
  rw [hL] at hl ⊢
  rw [hg] at d0 hlk
  unfold maxLen at hl2
  clear fin hV hp hm hf hv hL hg hx hxn hhas hn
  go_enter Tryd.func43, Tryd.ntmps43
  go_wp2_with fail
  go_still_tail 12, (by kernel_rfl)
  rw [wrap_in (u - (L : Int)) (by omega)]
  obtain ⟨u', hu'⟩ : ∃ u', u - (L : Int) = u' := ⟨_, rfl⟩
  rw [hu'] at FIN hdel ⊢
  change wpList _ _ _ _ _ w.drew
  have c1' : w.drew.cell? ⟨p, 1, none⟩ = some (.int .i64 u) := c1
  have c2' : w.drew.cell? ⟨p, 2, none⟩ = some (.map mo') := c2
  have z1' : w.drew.frozen? ⟨p, 1, none⟩ = false := z1
  clear c1 c2 d0 z1 hu0 hu1 hlk
  generalize w.drew = w0 at *
  go_wp2
  go_end0
  exact ⟨rfl, by rw [hu']; exact FIN.out⟩
set_option maxHeartbeats 400000 in
theorem vdrop_none (hV : VDiskU base S w p room u fs) (n : ByteArray) (hn : n.size ≤ maxLen) (hh : hasF (filesP fs) n = false) :
    Calls Tryd.prog 43 #[.pointer (some ⟨p, 0, none⟩), .string n] w fun e w' => e = .returned (.tuple #[]) ∧ w = w' := by
  obtain ⟨mo, _, _, c2, hm⟩ := hV.cells
  have hlk := (hm.look hV.row.rising hn).2 (not_file hV.row.rising hh)
  clear hm hh hV
  go_enter Tryd.func43, Tryd.ntmps43
  go_wp2
  go_end0
  exact ⟨rfl, rfl⟩
end
end Go.Proofs.YtefjbefmmmllbaaDoor
