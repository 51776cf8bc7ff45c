/-
  SetI, RunK in one text. Nothing here is trusted.
-/
import Derived.Test.YtnmcgmpmcliinaaGreatPart17
import Derived.Test.YtnmcgmpmcliinaaGreatPart15
import Derived.Laws.CopyRow
import Derived.Laws.IdiomCopy
import Derived.Deep.RegionLaw
import Derived.Lib.Overlaps
import Derived.Lib.Walk
import Derived.Lib.AppendZerosOnto
set_option linter.unusedVariables false
namespace Go.Proofs.YtnmcgmpmcliinaaGreat
open Go.RowKit

theorem rootsS_len : ∀ l : List SnapE, (∀ s ∈ l, s.files.length ≤ 6) → (rootsS l).length ≤ l.length * 6
  | [], _ => by simp [rootsS]
  | s :: l, hl => by
    have e : rootsS (s :: l) = rootsE s.files ++ rootsS l := rfl
    rw [e, List.length_append, List.length_cons]
    have h3 := hl s (by simp)
    have h4 := rootsS_len l (fun t ht => hl t (by simp [ht]))
    have h5 : (rootsE s.files).length = s.files.length := by simp [rootsE]
    omega
theorem shape_len {x : SetE} (h : Shape x) : (rootsX x).length ≤ 24 := by
  unfold rootsX
  rw [List.length_append]
  have h1 : (rootsE x.files).length ≤ 6 := by unfold rootsE; rw [List.length_map]; exact h.few
  have h6 := rootsS_len x.snaps (fun s hs => (h.filesS s hs).1)
  have := h.fewS
  omega
theorem rootsX_len {n : Nat} {B : Nat → Blk} {key : Int} {x : SetE} (h : SetOk n B key x) : (rootsX x).length ≤ 24 := shape_len h.shape
theorem count_next {R : List Int} {j : Nat} {r : Int} (hr : R[j]? = some r) (k : Int) : (R.take (j + 1)).count k = (R.take j).count k + if r = k then 1 else 0 := by
  rw [take_next hr, List.count_append]
  by_cases e : r = k
  · subst e; simp
  · rw [List.count_cons_of_ne e]; simp [e]
theorem count_take_le (R : List Int) (j : Nat) (k : Int) : (R.take j).count k ≤ R.count k := (List.take_sublist j R).count_le k

set_option maxHeartbeats 4000000 in
set_option maxRecDepth 100000 in
theorem held_full (Q : Nat → Prop) (a : Option Addr) (n c : Nat) (B : Nat → Blk) (key : Int) (v : SetV) (x : SetE) (w : World) (h : StoreAt w a n B) (hX : SetAt Q w v x) (hok : SetOk n B key x) :
    Calls Tryz.prog 85 #[.agg #[.slice a n c], v.val] w fun e w' => (RetE e (HeldR n B (rootsX x)) ∧ (e = .returned (.int .i64 0) ∨ e = .returned (.int .i64 7))) ∧ Below w.heap.size w w' := by
  have hbd := hid hok.rootBd
  have hR := hid hok.right
  have hn := hok.right.small
  have h24 := rootsX_len hok
  have hc6 := hid (show x.files.length ≤ 6 ∧ x.snaps.length ≤ 3 ∧ ∀ s ∈ x.snaps, s.files.length ≤ 6 from ⟨hok.files.few, hok.fewS, fun s hs => (hok.filesS s hs).few⟩)
  clear hok
  obtain ⟨vn, fa, fn, fc, sa, sn, sc⟩ := v
  have hnm := hX.name
  simp only at hnm
  subst hnm
  unfold SetV.val
  simp only
  have b0 := below_two w (.cells #[.slice a n c] 24) (.cells #[.string x.name, .slice fa fn fc, .slice sa sn sc] 47)
  have k0 : CellsAt _ w.heap.size #[.slice a n c] 24 := (cellsAt_alloc w _ _).below (below_alloc _ (.cells #[.string x.name, .slice fa fn fc, .slice sa sn sc] 47))
  have k1 := cellsAt_alloc2 w (.cells #[.slice a n c] 24) #[.string x.name, .slice fa fn fc, .slice sa sn sc] 47
  replace h := hid (h.below b0)
  replace hX := hid (hX.below b0)
  replace k0 := hid k0
  replace k1 := hid k1
  go_enter Tryz.func85, Tryz.ntmps85
  go_wp2_with fail
  generalize (w.alloc (.cells #[.slice a n c] 24)).alloc (.cells #[.string x.name, .slice fa fn fc, .slice sa sn sc] 47) = w0 at *
  have s0 := k0.out.cell 0
  simp at s0
  refine (outside_any ⟨w.heap.size, 0, none⟩ a n c B w0 ⟨k0.out.lt, s0, h.out⟩).mono ?_
  rintro e w1 ⟨b1, ⟨e', rfl, he, hno⟩ | ⟨_, g, rfl, hrow⟩⟩
  · exact absurd hR.out hno
  have x0 := (b1.cell (p := ⟨w.heap.size + 1, 0, none⟩) k1.out.lt).trans (k1.out.cell 0)
  have x1 := (b1.cell (p := ⟨w.heap.size + 1, 1, none⟩) k1.out.lt).trans (k1.out.cell 1)
  have x2 := (b1.cell (p := ⟨w.heap.size + 1, 2, none⟩) k1.out.lt).trans (k1.out.cell 2)
  simp at x0 x1 x2
  have hglt := hrow.lt
  replace hrow := hid hrow
  clear s0
  go_wp2_with fail
  refine (roots_any Q ⟨x.name, fa, fn, fc, sa, sn, sc⟩ x w1 (hX.out.below b1) hc6.out.1 hc6.out.2.1 hc6.out.2.2).mono ?_
  rintro e w2 ⟨⟨ra, rc, rfl, hro, hrw⟩, b2⟩
  obtain ⟨ra', rc', hv, hrc, hN⟩ := numsAt_own hrw hro
  simp only [Value.slice.injEq, true_and] at hv
  obtain ⟨rfl, rfl⟩ := hv
  have hrow2 : Row w2 w0.heap.size g n (outs n B) := row_below hrow.out b2
  replace hrow2 := hid hrow2
  replace hN := hid hN
  have hb2 := hid (Below.tr b1 b2)
  clear hrow hro b1 b2 x0 x1 x2 hrw hX h k0 k1
  obtain ⟨rn, hrn⟩ : ∃ rn, rn = (rootsX x).length := ⟨_, rfl⟩
  rw [← hrn] at hN h24
  simp only [← hrn]
  have hrn' := hid hrn.symm
  clear hrn
  generalize hRR : rootsX x = R at *
  go_wp2_with fail
  go_loopw [19] (fun v wr => ∃ j : Nat, j ≤ rn ∧ v = .int .i64 j ∧ Kept g w2 wr ∧ Row wr w0.heap.size g n (fun k => outs n B k - ((R.take j).count ((k : Int) + 1) : Int)) ∧ ∀ k, k < n → ((R.take j).count ((k : Int) + 1) : Int) ≤ outs n B k) (fun v _ => rn - (Go.RowKit.intOf v).toNat)
  case atStart => exact ⟨0, Nat.zero_le _, rfl, Kept.refl _ _, hrow2.out.congr (fun k _ => by simp), fun k hk => by simp; have := hR.out.held k hk; simp at this; unfold outs; omega⟩
  case round =>
    clear hrow2
    obtain ⟨j, hj, rfl, hkp, hrow, hle⟩ := hrel
    replace hle := hid hle
    by_cases hlt : j < rn
    · have hjl : j < R.length := by rw [hrn'.out]; exact hlt
      obtain ⟨kb, ko, rfl, hkb, hgk, hcc⟩ := hN.out.2.2 (by omega)
      have hck : wr.cell? ⟨kb, ko + j, none⟩ = some (.int .i64 (R.getD j 0)) := (hkp.cell (p := ⟨kb, ko + j, none⟩) (by simp; omega)).trans (hcc j hlt)
      have hx : R[j]? = some (R.getD j 0) := by rw [List.getElem?_eq_getElem hjl]; simp [List.getD, hjl]
      have hmem := hbd.out _ (List.mem_of_getElem? hx)
      replace hx := hid hx
      clear hcc hjl
      generalize R.getD j 0 = r at *
      by_cases h0 : r = 0
      · subst h0
        have hrow' : Hid (Row wr w0.heap.size g n (fun k => outs n B k - ((R.take (j + 1)).count ((k : Int) + 1) : Int))) := hid (hrow.congr (fun k hk => by rw [count_next hx.out, if_neg (by omega)]; simp))
        have hle' : Hid (∀ k, k < n → ((R.take (j + 1)).count ((k : Int) + 1) : Int) ≤ outs n B k) := hid (fun k hk => by have := hle.out k hk; rw [count_next hx.out, if_neg (by omega)]; simpa using this)
        clear hrow
        go_wp2_with fail
        go_roundw
        case rel => exact ⟨j + 1, by omega, by go_num, hkp, hrow'.out, hle'.out⟩
        case measure => simp [Go.RowKit.intOf]; omega
      · obtain ⟨m, rfl⟩ : ∃ m : Nat, r = (m : Int) + 1 := ⟨(r - 1).toNat, by omega⟩
        have hmn : m < n := by omega
        have hr1 : ¬ ((m : Int) + 1 < 1) := by omega
        have hr2 : ¬ ((n : Int) < (m : Int) + 1) := by omega
        have r0 := hrow.cell hmn
        have r1 := hrow.frozen m
        have hle0 := hle.out m hmn
        have hbb := (hR.out.one m hmn).bounds
        have hob : outs n B m ≤ 1000000 := by unfold outs; omega
        have hrow' : Hid (Row (wr.setCell ⟨g, m, none⟩ (.int .i64 (outs n B m - ((R.take j).count ((m : Int) + 1) : Int) - 1))) w0.heap.size g n (fun k => outs n B k - ((R.take (j + 1)).count ((k : Int) + 1) : Int))) := hid ((hrow.set m _).congr (fun k hk => by
          rw [count_next hx.out]
          by_cases e : k = m
          · subst e; simp; omega
          · rw [if_neg e, if_neg (by omega)]; simp))
        have hkp' : Hid (Kept g w2 (wr.setCell ⟨g, m, none⟩ (.int .i64 (outs n B m - ((R.take j).count ((m : Int) + 1) : Int) - 1)))) := hid (hkp.trans (Kept.setCell (g := g) (Kept.refl _ _) (p := ⟨g, m, none⟩) rfl _))
        have hcn : Hid (((R.take (j + 1)).count ((m : Int) + 1) : Int) = ((R.take j).count ((m : Int) + 1) : Int) + 1) := hid (by rw [count_next hx.out, if_pos rfl]; simp)
        have hcq : Hid (∀ k : Nat, k ≠ m → (R.take (j + 1)).count ((k : Int) + 1) = (R.take j).count ((k : Int) + 1)) := hid (fun k hk => by rw [count_next hx.out, if_neg (by omega)]; rfl)
        clear hrow hbb
        generalize hd : outs n B m - ((R.take j).count ((m : Int) + 1) : Int) = d at *
        replace hd := hid hd
        have hd0 : (0 : Int) ≤ d := by rw [← hd.out]; omega
        have hd1 : d ≤ 1000000 := by rw [← hd.out]; omega
        by_cases hneg : d - 1 < 0
        · have hneg' : decide (d - 1 < 0) = true := by simp [hneg]
          go_wp2_with fail
          go_ret
          refine ⟨⟨retE_no 7 (by omega) (fun f => ?_), .inr rfl⟩, Below.tr b0 (hb2.out.trans (hkp'.out.below (by omega)))⟩
          have h1 := f m hmn
          have h2 := count_take_le R (j + 1) ((m : Int) + 1)
          have h3 := hcn.out
          have h4 := hd.out
          omega
        · have hneg' : decide (d - 1 < 0) = false := by simp [hneg]
          have hle' : Hid (∀ k, k < n → ((R.take (j + 1)).count ((k : Int) + 1) : Int) ≤ outs n B k) := hid (fun k hk => by
            by_cases e : k = m
            · subst e; have h3 := hcn.out; have h4 := hd.out; omega
            · rw [hcq.out k e]; exact hle.out k hk)
          go_wp2_with fail
          go_roundw
          case rel => exact ⟨j + 1, by omega, by go_num, hkp'.out, hrow'.out, hle'.out⟩
          case measure => simp [Go.RowKit.intOf]; omega
    · obtain rfl : j = rn := by omega
      have e1 : R.take j = R := List.take_of_length_le (by rw [hrn'.out]; exact Nat.le_refl _)
      have hfin : Hid (HeldR n B R) := hid (fun k hk => by have := hle.out k hk; rwa [e1] at this)
      clear hrow e1
      go_wp2_with fail
      go_ret
      exact ⟨⟨retE_yes (hRR ▸ hfin.out), .inl rfl⟩, Below.tr b0 (hb2.out.trans (hkp.below (by omega)))⟩

theorem held_any (Q : Nat → Prop) (a : Option Addr) (n c : Nat) (B : Nat → Blk) (key : Int) (v : SetV) (x : SetE) (w : World) (h : StoreAt w a n B) (hX : SetAt Q w v x) (hok : SetOk n B key x) :
    Calls Tryz.prog 85 #[.agg #[.slice a n c], v.val] w fun e w' => RetE e (HeldR n B (rootsX x)) ∧ Below w.heap.size w w' :=
  (held_full Q a n c B key v x w h hX hok).mono (fun _ _ h => ⟨h.1.1, h.2⟩)
theorem checkHeld_any (Q : Nat → Prop) (a : Option Addr) (n c : Nat) (B : Nat → Blk) (key : Int) (v : SetV) (x : SetE) (w : World) (h : StoreAt w a n B) (hX : SetAt Q w v x) :
    Calls Tryz.prog 77 #[.agg #[.slice a n c], .int .i64 key, v.val] w fun e w' => RetE e (SetOk n B key x ∧ HeldR n B (rootsX x)) ∧ Below w.heap.size w w' := by
  obtain ⟨vn, fa, fn, fc, sa, sn, sc⟩ := v
  have hnm := hX.name
  simp only at hnm
  subst hnm
  unfold SetV.val
  simp only
  have b0 := below_two w (.cells #[.slice a n c] 24) (.cells #[.string x.name, .slice fa fn fc, .slice sa sn sc] 47)
  have k0 : CellsAt _ w.heap.size #[.slice a n c] 24 := (cellsAt_alloc w _ _).below (below_alloc _ (.cells #[.string x.name, .slice fa fn fc, .slice sa sn sc] 47))
  have k1 := cellsAt_alloc2 w (.cells #[.slice a n c] 24) #[.string x.name, .slice fa fn fc, .slice sa sn sc] 47
  replace h := hid (h.below b0)
  replace hX := hid (hX.below b0)
  replace k0 := hid k0
  replace k1 := hid k1
  go_enter Tryz.func77, Tryz.ntmps77
  go_wp2_with fail
  generalize (w.alloc (.cells #[.slice a n c] 24)).alloc (.cells #[.string x.name, .slice fa fn fc, .slice sa sn sc] 47) = w0 at *
  refine (setCheck_any Q a n c B key ⟨x.name, fa, fn, fc, sa, sn, sc⟩ x w0 h.out hX.out).mono ?_
  rintro e w1 ⟨⟨e', rfl, he⟩, b1⟩
  replace he := hid he
  have s0 := (b1.cell (p := ⟨w.heap.size, 0, none⟩) k0.out.lt).trans (k0.out.cell 0)
  have x0 := (b1.cell (p := ⟨w.heap.size + 1, 0, none⟩) k1.out.lt).trans (k1.out.cell 0)
  have x1 := (b1.cell (p := ⟨w.heap.size + 1, 1, none⟩) k1.out.lt).trans (k1.out.cell 1)
  have x2 := (b1.cell (p := ⟨w.heap.size + 1, 2, none⟩) k1.out.lt).trans (k1.out.cell 2)
  simp at s0 x0 x1 x2
  by_cases h0 : e' = 0
  · have h0' : (e' == 0) = true := by simp [h0]
    have hok := hid (he.out.1 h0)
    go_wp2_with fail
    refine (held_any Q a n c B key ⟨x.name, fa, fn, fc, sa, sn, sc⟩ x w1 (h.out.below b1) (hX.out.below b1) hok.out).mono ?_
    rintro e w2 ⟨⟨e2, rfl, he2⟩, b2⟩
    replace he2 := hid he2
    replace b1 := Below.tr (Below.tr b0 b1) b2
    clear s0 x0 x1 x2 b2
    go_wp2_with fail
    go_ret
    exact ⟨⟨e2, rfl, fun f => ⟨hok.out, he2.out.1 f⟩, fun f => he2.out.2 f.2⟩, b1⟩
  · have h0' : (e' == 0) = false := by simp [h0]
    go_wp2_with fail
    go_ret
    exact ⟨retE_no e' h0 (fun f => h0 (he.out.2 f.1)), Below.tr b0 b1⟩
end Go.Proofs.YtnmcgmpmcliinaaGreat

namespace Go.Proofs.YtnmcgmpmcliinaaGreat
open Go.RowKit

/-- copy, where its run is known -/
theorem wp_copy_runK {P : Program} (w : World) {o : Oper} {a : Act} {K : Act → World → Prop} {Q : Exit → Act → World → Prop} (d s : Operand) (t t' : TypeId)
    (ho : o.op = .call { callee := .builtin .copy, args := #[d, s], argTypes := #[t, t'] }) (v u : Value) (hd : a.eval d = v) (hs : a.eval s = u) {v' : Value} {w' : World}
    (hr : (Builtin.copy_ #[t, t'] o.type #[v, u]).run P w = .ok v' w') (h : K (a.put o.dst v') w') : o.wp P a w K Q := by
  unfold Oper.wp
  simp [execOp, ho, resolve, invoke, builtin, hd, hs, hr, Result.andThen]
  exact h
theorem wpList_copy_runK {P : Program} (w : World) {ops : Array Oper} {rest : List Oper} {o : Oper} {a : Act} {Q : Exit → Act → World → Prop} (hgd : o.guard = none) (d s : Operand) (t t' : TypeId)
    (ho : o.op = .call { callee := .builtin .copy, args := #[d, s], argTypes := #[t, t'] }) (v u : Value) (hd : a.eval d = v) (hs : a.eval s = u) {v' : Value} {w' : World}
    (hr : (Builtin.copy_ #[t, t'] o.type #[v, u]).run P w = .ok v' w') (h : wpList P ops Q rest (a.put o.dst v') w') : wpList P ops Q (o :: rest) a w :=
  wpList_plain hgd fun _ hK => wp_copy_runK w d s t t' ho v u hd hs hr (hK _ _ h)
theorem step_copy_runK {P : Program} {ops : Array Oper} {o : Oper} {a : Act} {w : World} {K : Act → World → Prop} {Q : Exit → Act → World → Prop} {E : Prop}
    (hg : o.guard = none) (d x : Operand) (dT sT : TypeId) (hop : o.op = Op.call { callee := Callee.builtin Builtin.copy, args := #[d, x], argTypes := #[dT, sT] })
    (v u : Value) (hd : a.eval d = v) (hx : a.eval x = u) {v' : Value} {w' : World} (hr : (Builtin.copy_ #[dT, sT] o.type #[v, u]).run P w = .ok v' w') (hK : K (a.put o.dst v') w') :
    if Region.wanted o (yielded ops a.tmps) = true then Oper.wp P o a w K Q else E := by
  have hw : Region.wanted o (yielded ops a.tmps) = true := by simp [Region.wanted, hg]
  rw [if_pos hw]
  exact wp_copy_runK w d x dT sT hop v u hd hx hr hK

/-- cells laid over others -/
def layAt (cur : Array Value) (o : Nat) (vs : List Value) : Array Value := (cur.toList.take o ++ vs ++ cur.toList.drop (o + vs.length)).toArray
theorem layAt_size {cur : Array Value} {o : Nat} {vs : List Value} (h : o + vs.length ≤ cur.size) : (layAt cur o vs).size = cur.size := by
  unfold layAt
  simp
  omega
theorem layAt_list (cur : Array Value) (o : Nat) (vs : List Value) : (layAt cur o vs).toList = cur.toList.take o ++ vs ++ cur.toList.drop (o + vs.length) := by
  unfold layAt
  simp
theorem layAt_take {cur : Array Value} {o n : Nat} {vs : List Value} (h : o + vs.length ≤ cur.size) (hn : n ≤ o) : (layAt cur o vs).toList.take n = cur.toList.take n := by
  rw [layAt_list, List.append_assoc, List.take_append_of_le_length (by simp; omega), List.take_take]
  congr 1
  omega
theorem layAt_take2 {cur : Array Value} {o : Nat} {vs : List Value} (h : o + vs.length ≤ cur.size) : (layAt cur o vs).toList.take (o + vs.length) = cur.toList.take o ++ vs := by
  rw [layAt_list]
  exact List.take_left' (by simp; omega)

theorem run_copy_rowk {P : Program} (w : World) (dT sT ty elem : TypeId) (k g o dLen dCap : Nat) (a : Addr) (sLen sCap : Nat) (cur : Array Value) (t : TypeId) (cs : List Value)
    (hu : P.underlying dT = some (.slice elem)) (hs : (P.info? elem).map (·.size) = some k)
    (hg : CellsAt w g cur t) (hn : cs.length = Nat.min sLen dLen * k)
    (hsrc : ∀ j v, cs[j]? = some v → w.cell? (a.add j) = some v) (hfit : o + cs.length ≤ cur.size) (h1 : ∀ v ∈ cs, v.oneCell' = true) :
    (Builtin.copy_ #[dT, sT] ty #[.slice (some ⟨g, o, none⟩) dLen dCap, .slice (some a) sLen sCap]).run P w =
      .ok (goInt (Nat.min sLen dLen)) (w.setRow g (layAt cur o cs)) := by
  have hl := run_loadCells_list (P := P) w a cs hsrc
  have hst := run_storeCells_at P g o t cs 0 cur w hg (by simpa using hfit) h1
  cases hq : P.info? elem with
  | none => simp [hq] at hs
  | some i =>
    have hi : i.size = k := by simpa [hq] using hs
    simp [Builtin.copy_, run_underlying hu, Builtin.lenOf, Builtin.firstCells, sizeOf, typeInfo, hq, hi, ← hn, hl, hst, layAt]
theorem setRow_cells {w : World} {g : Nat} {cur cur' : Array Value} {t : TypeId} (hg : CellsAt w g cur t) : CellsAt (w.setRow g cur') g cur' t := setRow_heap w g cur cur' t (0, 0) hg
theorem setRow_kept (w : World) (g : Nat) (cur : Array Value) : Kept g w (w.setRow g cur) := by
  refine ⟨rfl, rfl, rfl, by unfold World.setRow; simp, fun k hk => ?_⟩
  unfold World.setRow
  simp only [Array.getElem?_modify]
  rw [if_neg (fun e => hk e.symm)]
theorem setCells_cells {g : Nat} {t : TypeId} : ∀ (vs : List Value) (o : Nat) (w : World) (cur : Array Value), CellsAt w g cur t → o + vs.length ≤ cur.size → CellsAt (w.setCells g o vs) g (layAt cur o vs) t
  | [], o, w, cur, hg, _ => by
    have : layAt cur o [] = cur := by unfold layAt; simp
    rw [this]
    exact hg
  | v :: r, o, w, cur, hg, h => by
    simp only [List.length_cons] at h
    have h1 := hg.set o v
    have h2 := setCells_cells r (o + 1) _ _ h1 (by simp; omega)
    have e : layAt (cur.setIfInBounds o v) (o + 1) r = layAt cur o (v :: r) := by
      unfold layAt
      congr 1
      have := list_seg_step cur.toList o v r (by simp; omega)
      simpa [Array.toList_setIfInBounds, Nat.add_assoc] using this
    rw [e] at h2
    exact h2
theorem setCells_kept (g : Nat) : ∀ (vs : List Value) (o : Nat) (w : World), Kept g w (w.setCells g o vs)
  | [], _, w => Kept.refl _ _
  | v :: r, o, w => (Kept.setCell (g := g) (Kept.refl _ _) (p := ⟨g, o, none⟩) rfl v).trans (setCells_kept g r (o + 1) _)
theorem run_clear_rowk {P : Program} (w : World) (t e tc : TypeId) (z : Value) (k g o n c : Nat) (cur : Array Value) (ht : P.underlying t = some (.slice e)) (hv : ∀ w, (zeroValue e).run P w = .ok z w) (hz : z.cells.size = k) (h1 : ∀ v ∈ z.cells.toList, v.oneCell' = true) (hn : 0 < n)
    (hg : CellsAt w g cur tc) (hfit : o + n * k ≤ cur.size) :
    ∃ vs : List Value, vs.length = n * k ∧ ∀ ty : TypeId, (Builtin.clear_ #[t] ty #[.slice (some ⟨g, o, none⟩) n c]).run P w = .ok (.tuple #[]) (w.setRow g (layAt cur o vs)) := by
  refine ⟨(Builtin.zeroCells z.cells n).toList, by simp [Builtin.zeroCells, hz], fun ty => ?_⟩
  have hlen : (Builtin.zeroCells z.cells n).toList.length = n * k := by simp [Builtin.zeroCells, hz]
  have hone : ∀ v ∈ (Builtin.zeroCells z.cells n).toList, v.oneCell' = true := by
    intro v hv
    simp only [Builtin.zeroCells, Array.toList_map, List.mem_map] at hv
    obtain ⟨j, hj, rfl⟩ := hv
    by_cases hk : k = 0
    · subst hk
      rw [hz] at hj
      simp at hj
    · have hlt : j % z.cells.size < z.cells.size := Nat.mod_lt _ (by omega)
      rw [getElem!_pos z.cells _ hlt]
      exact h1 _ (by simp)
  have hst := run_storeCells_at P g o tc (Builtin.zeroCells z.cells n).toList 0 cur w hg (by rw [hlen]; simpa using hfit) hone
  cases n with
  | zero => omega
  | succ n => simp [Builtin.clear_, run_underlying ht, hv, hst, layAt]
end Go.Proofs.YtnmcgmpmcliinaaGreat
