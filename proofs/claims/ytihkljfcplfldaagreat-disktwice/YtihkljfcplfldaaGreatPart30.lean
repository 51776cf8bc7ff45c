/-
  RdD in one text. Nothing here is trusted.
-/
import Derived.Test.YtihkljfcplfldaaGreatPart29
set_option linter.unusedVariables false
namespace Go.Proofs.YtihkljfcplfldaaGreat
open Go.RowKit

theorem row_le {w : World} {base : Nat} {e : TypeId} {k n c m : Nat} {a : Option Addr} {xs : List Value} (h : w.ownsRow base e k (.slice a n c) m xs) : n ≤ c := by
  rcases h.2 with ⟨hv, h0⟩ | ⟨g, cap, cur, hv, _, _, hnc, _⟩
  · simp only [Value.slice.injEq] at hv; omega
  · simp only [Value.slice.injEq] at hv; omega
/-- the cells of a row of things -/
theorem row_cells {M : Type} {cells : M → List Value} {w : World} {base : Nat} {e : TypeId} {k n c : Nat} {a : Option Addr} {ms : List M} (h : w.ownsRow base e k (.slice a n c) n (ms.flatMap cells)) (hl : ms.length = n) (hk : ∀ x, (cells x).length = k) (hp : 0 < n) :
    ∃ g, a = some ⟨g, 0, none⟩ ∧ base ≤ g ∧ g < w.heap.size ∧ (Value.slice a n c).ownBlock = some g ∧ ∀ i (hi : i < ms.length) r, r < k → w.cell? ⟨g, i * k + r, none⟩ = (cells ms[i])[r]? := by
  rcases h.2 with ⟨_, h0⟩ | ⟨g, cap, cur, hv, hg, hh, hnc, _⟩
  · omega
  · simp only [Value.slice.injEq] at hv
    obtain ⟨rfl, _, rfl⟩ := hv
    refine ⟨g, rfl, hg, (h.lt g rfl).2, rfl, fun i hi r hr => ?_⟩
    rw [h.cellAt (i * k + r) (by
      have h1 : (i + 1) * k ≤ n * k := Nat.mul_le_mul_right k (by omega)
      rw [Nat.add_mul, Nat.one_mul] at h1
      omega), flat_get hk ms i r hi hr]
theorem ents_of {base n c : Nat} {a : Option Addr} {ms : List Ent} {w : World} {e : TypeId} (h : ListV Ent.cells entAt base e 3 ms (.slice a n c) w) : ms.length = n ∧ EntsAt (fun b => base ≤ b) w a n ms ∧ n ≤ c := by
  obtain ⟨a', c', hv⟩ := h.val
  simp only [Value.slice.injEq] at hv
  obtain ⟨rfl, rfl, rfl⟩ := hv
  refine ⟨rfl, (ents_own (fun x hx => ?_) h.row).weaken (fun b _ q => q.1), row_le h.row⟩
  obtain ⟨h1, h2, h3⟩ := h.els x hx
  exact ⟨by unfold maxLen; omega, by omega, by omega⟩
theorem snaps_of {base n c : Nat} {a : Option Addr} {ms : List SnapM} {w : World} {e : TypeId} (h : ListV SnapM.cells SnapM.At base e 2 ms (.slice a n c) w) : ms.length = n ∧ SnapsAt (fun b => base ≤ b) w a n (ms.map SnapM.e) ∧ n ≤ c := by
  obtain ⟨a', c', hv⟩ := h.val
  simp only [Value.slice.injEq] at hv
  obtain ⟨rfl, rfl, rfl⟩ := hv
  exact ⟨rfl, (snaps_own h.els h.row).weaken (fun b _ q => by rcases q with q | q; exact q.1; exact q.1), row_le h.row⟩
theorem getD_map {M α : Type} (f : M → α) (ms : List M) (z : α) {i : Nat} (hi : i < ms.length) : (ms.map f).getD i z = f ms[i] := by simp [List.getD, hi]
theorem sets_of {base n c : Nat} {a : Option Addr} {ms : List SetM} {w : World} {e : TypeId} (h : ListV SetM.cells SetM.At base e 3 ms (.slice a n c) w) : ms.length = n ∧ SetsAt (fun b => base ≤ b) w a n (ms.map SetM.x) ∧ n ≤ c := by
  obtain ⟨a', c', hv⟩ := h.val
  simp only [Value.slice.injEq] at hv
  obtain ⟨rfl, rfl, rfl⟩ := hv
  refine ⟨rfl, ⟨by simp, fun hp => ?_⟩, row_le h.row⟩
  obtain ⟨g, rfl, hg, hlt, hown, hc⟩ := row_cells h.row rfl (fun _ => rfl) hp
  refine ⟨g, 0, rfl, hlt, hg, fun i hi => ⟨ms[i].v, ?_, ?_, ?_, ?_⟩⟩
  · rw [Nat.zero_add]; exact hc i hi 0 (by omega)
  · rw [Nat.zero_add]; exact hc i hi 1 (by omega)
  · rw [Nat.zero_add]; exact hc i hi 2 (by omega)
  · rw [getD_map SetM.x ms _ hi]
    exact SetAt.weaken (h.els _ (List.getElem_mem hi)) (fun b _ q => q.1)
theorem tens_of {base n c : Nat} {a : Option Addr} {ms : List TenM} {w : World} {e : TypeId} (h : ListV TenM.cells TenM.At base e 3 ms (.slice a n c) w) : ms.length = n ∧ TensAt (fun b => base ≤ b) w a n (ms.map TenM.t) ∧ n ≤ c := by
  obtain ⟨a', c', hv⟩ := h.val
  simp only [Value.slice.injEq] at hv
  obtain ⟨rfl, rfl, rfl⟩ := hv
  refine ⟨rfl, ⟨by simp, fun hp => ?_⟩, row_le h.row⟩
  obtain ⟨g, rfl, hg, hlt, hown, hc⟩ := row_cells h.row rfl (fun _ => rfl) hp
  refine ⟨g, 0, rfl, hlt, hg, fun i hi => ⟨ms[i].sa, ms[i].sn, ms[i].sc, ?_⟩⟩
  rw [getD_map TenM.t ms _ hi]
  have hA := h.els _ (List.getElem_mem hi)
  refine ⟨?_, ?_, ?_, hA.sets.weaken (fun b _ q => q.1), by have := hA.kb; omega, by have := hA.qb; omega, hA.caps⟩
  · rw [Nat.zero_add]; exact hc i hi 0 (by omega)
  · rw [Nat.zero_add]; exact hc i hi 1 (by omega)
  · rw [Nat.zero_add]; exact hc i hi 2 (by omega)
/-- the blocks of a list -/
def blksOf (l : List Blk) : Nat → Blk := fun i => l.getD i Blk.zero
theorem blks_of {base n c : Nat} {a : Option Addr} {ms : List BlkM} {w : World} {e : TypeId} (h : ListV BlkM.cells BlkM.At base e 4 ms (.slice a n c) w) : ms.length = n ∧ StoreAt w a n (blksOf (ms.map BlkM.b)) ∧ n ≤ c := by
  obtain ⟨a', c', hv⟩ := h.val
  simp only [Value.slice.injEq] at hv
  obtain ⟨rfl, rfl, rfl⟩ := hv
  refine ⟨rfl, fun hp => ?_, row_le h.row⟩
  obtain ⟨g, rfl, hg, hlt, hown, hc⟩ := row_cells h.row rfl (fun _ => rfl) hp
  refine ⟨g, 0, rfl, hlt, fun i hi => ⟨ms[i].ka, ms[i].kn, ms[i].kc, ms[i].ba, ms[i].bn, ms[i].bc, ?_⟩⟩
  have e1 : blksOf (ms.map BlkM.b) i = ms[i].b := getD_map BlkM.b ms _ hi
  rw [e1]
  have hA := h.els _ (List.getElem_mem hi)
  refine ⟨?_, ?_, ?_, ?_, hA.kids.weaken (fun b _ q => trivial), hA.bytes.weaken (fun b _ q => trivial), by have := hA.rb; omega, by have := hA.lb; omega, hA.caps⟩
  · rw [Nat.zero_add]; exact hc i hi 0 (by omega)
  · rw [Nat.zero_add]; exact hc i hi 1 (by omega)
  · rw [Nat.zero_add]; exact hc i hi 2 (by omega)
  · rw [Nat.zero_add]; exact hc i hi 3 (by omega)
theorem nums_of {base n c : Nat} {a : Option Addr} {ms : List Int} {w : World} {e : TypeId} (h : ListV intCells intAt base e 1 ms (.slice a n c) w) : ms.length = n ∧ NumsAt (fun b => base ≤ b) .i64 w a n ms ∧ n ≤ c := by
  obtain ⟨a', c', hv⟩ := h.val
  simp only [Value.slice.injEq] at hv
  obtain ⟨rfl, rfl, rfl⟩ := hv
  have hr := h.row
  have e1 : ms.flatMap intCells = ms.map (Value.int .i64) := by
    clear h hr
    induction ms with
    | nil => rfl
    | cons x ms ih => simp only [List.flatMap_cons, List.map_cons, ih, intCells, List.singleton_append]
  rw [e1] at hr
  obtain ⟨a2, c2, hv2, _, hN⟩ := numsAt_own (fun x hx => by have h1 := (h.els x hx).1; have h2 := (h.els x hx).2; exact WalkArith.wf_i64 (by omega)) hr
  simp only [Value.slice.injEq] at hv2
  obtain ⟨rfl, _, rfl⟩ := hv2
  exact ⟨rfl, hN, row_le h.row⟩

set_option maxHeartbeats 2000000 in
set_option maxRecDepth 100000 in
theorem rsnap_any (H rb : Nat) (l : List Int) (w : World) (hR : RdL H w rb l) :
    Calls Tryz.prog 212 #[.pointer (some ⟨rb, 0, none⟩)] w fun e w' => RetRx H w rb (snapP l) (fun x v w' => ∃ m : SnapM, SnapM.e m = x ∧ v = .agg #[.string m.e.name, .slice m.fa m.fn m.fc] ∧ SnapM.At (fun b => w.heap.size ≤ b) w' m) e w' := by
  have hlt := hid hR.lt
  have b0 := hid (below_alloc w (.cells #[.string ⟨#[]⟩, .slice none 0 0] 88))
  have k0 : Hid (CellsAt _ w.heap.size #[.string ⟨#[]⟩, .slice none 0 0] 88) := hid (cellsAt_alloc w _ _)
  replace hR := hid (hR.below b0.out)
  have hO := hid (Out.of_below (g := rb) b0.out)
  have hne : Hid (w.heap.size ≠ rb) := hid (by have := hlt.out; omega)
  have hsz : Hid ((w.alloc (.cells #[.string ⟨#[]⟩, .slice none 0 0] 88)).heap.size = w.heap.size + 1) := hid (by simp)
  clear b0
  go_enter Tryz.func212, Tryz.ntmps212
  go_upto_region 1 with fail
  generalize w.alloc (.cells #[.string ⟨#[]⟩, .slice none 0 0] 88) = w0 at *
  go_wp2_with fail
  refine (rname_any H rb l w0 hR.out).mono ?_
  rintro e w1 (⟨s, l1, v, hp1, rfl, ⟨rfl, hs⟩, hR1, hO1⟩ | ⟨hp1, rfl, hO1⟩)
  · replace hp1 := hid hp1
    replace hR1 := hid hR1
    replace k0 := hid (Out.cells hO1 k0.out hne.out)
    have hs1 : Hid (w.heap.size + 1 ≤ w1.heap.size) := hid (by have := hO1.size; have := hsz.out; omega)
    replace hO := hid (hO.out.trans hO1)
    clear hR hO1
    go_wp2_with fail
    refine (rfiles_any H rb l1 w1 hR1.out).mono ?_
    rintro e w2 (⟨fs, l2, v, hp2, rfl, ⟨ms, hms, hV⟩, hR2, hO2⟩ | ⟨hp2, rfl, hO2⟩)
    · obtain ⟨va, vc, hv⟩ := hV.val
      subst hv
      obtain ⟨_, hE, hcap⟩ := ents_of hV
      rw [List.map_id] at hms
      subst hms
      have hP : Hid (snapP l = some (⟨s, ms⟩, l2)) := hid (by unfold snapP; rw [hp1.out]; simp only; rw [hp2])
      replace hR2 := hid hR2
      replace k0 := Out.cells hO2 k0.out hne.out
      replace hO := hid (hO.out.trans hO2)
      have d0 := k0.cell 0
      have d1 := k0.cell 1
      have e0 := k0.frozen 0
      have e1 := k0.frozen 1
      simp at d0 d1
      replace k0 := hid k0
      have hE' := hid ((hE.weaken (R := fun b => w.heap.size + 1 ≤ b) (fun b _ q => Nat.le_trans hs1.out q)).kept (fun b q => by omega) (kept_put2v w2 w.heap.size (.string s) (.slice va ms.length vc)))
      replace hcap := hid hcap
      clear hR1 hO2 hp2 hV hE
      go_wp2_with fail
      refine bodyPost_ret (v := .agg #[.string s, .slice va ms.length vc]) ?_ rfl (fin_rd hP.out hR2.out hO.out (kept_put2v w2 w.heap.size _ _) (Nat.le_refl _) hlt.out ⟨⟨⟨s, ms⟩, va, ms.length, vc⟩, rfl, rfl, hE'.out.weaken (fun b _ q => by omega), hcap.out, by simp only; unfold maxLen; omega⟩)
      exact results_cell_row rfl _ _ w.heap.size _ _ _ _ rfl (cells_put2v (.string s) (.slice va ms.length vc) k0.out) Tryz.underlying88 rfl (by kernel_rfl)
    · have hP : Hid (snapP l = none) := hid (by unfold snapP; rw [hp1.out]; simp only; rw [hp2])
      replace hO := hid (hO.out.trans hO2)
      clear hp2 hO2
      go_wp2_with fail
      exact ⟨rfl, .inr ⟨hP.out, rfl, hO.out⟩⟩
  · have hP : Hid (snapP l = none) := hid (by unfold snapP; rw [hp1])
    replace hO := hid (hO.out.trans hO1)
    clear hp1 hO1
    go_wp2_with fail
    exact ⟨rfl, .inr ⟨hP.out, rfl, hO.out⟩⟩

set_option maxHeartbeats 2000000 in
set_option maxRecDepth 100000 in
theorem rlistS_any (H rb n : Nat) (l : List Int) (w : World) (hR : RdL H w rb l) (hn : n < 65536) :
    Calls Tryz.prog 211 #[.int .i64 n, .func (.func 212) #[.pointer (some ⟨rb, 0, none⟩)] #[]] w fun e w' => RetRx H w rb (listP snapP n l) (fun xs v w' => ∃ ms : List SnapM, ms.map SnapM.e = xs ∧ ListV SnapM.cells SnapM.At w.heap.size 88 2 ms v w') e w' := by
  obtain ⟨i0, hi, hz0, hz1, hz2⟩ := info_parts Tryz.infoS
  have hlt := hid hR.lt
  replace hR := hid hR
  go_enter Tryz.func211, Tryz.ntmps211
  go_wp2_with fail
  go_loopw [5, 7] (fun u v wr => ∃ (j : Nat) (ms : List SnapM) (r : List Int), j ≤ n ∧ v = .int .i64 j ∧ LI SnapM.cells SnapM.At H w wr rb 88 2 u ms r ∧ listP snapP j l = some (ms.map SnapM.e, r)) (fun _ v _ => n - (Go.RowKit.intOf v).toNat)
  case atStart => exact ⟨0, [], l, Nat.zero_le _, rfl, LI.start hR.out, rfl⟩
  case round =>
    clear hR
    obtain ⟨j, ms, r, hj, rfl, hL, hP⟩ := hrel
    have hml := hid (show ms.length = j by have := listP_len hP; simpa using this)
    obtain ⟨ua, uc, hu⟩ := hL.val
    rw [hml.out] at hu
    subst hu
    replace hP := hid hP
    replace hL := hid hL
    by_cases hjn : j < n
    · go_wp2_with fail
      refine (rsnap_any H rb r wr hL.out.rd).mono ?_
      rintro e w5 (⟨x, r', v, hp, rfl, ⟨m, hmx, rfl, hAt⟩, hR5, hO5⟩ | ⟨hp, rfl, hO5⟩)
      · have hmid := LI.mid (m := m) snapAt_ok hL.out hlt.out.2 hO5 hR5 88
        have hbox : CellsAt (w5.alloc (.cells #[.string m.e.name, .slice m.fa m.fn m.fc] 88)) w5.heap.size (SnapM.cells m).toArray 88 := cellsAt_alloc w5 _ _
        obtain ⟨v7, w7, hrun, hrow, hg, hat⟩ := run_append_one 45 45 88 88 i0 _ 2 40 Tryz.underlying45 hi hz0 hz1 hz2 rfl (by decide) (by decide) w.heap.size (w5.alloc (.cells #[.string m.e.name, .slice m.fa m.fn m.fc] 88)) (.slice ua j uc) ms.length _ hmid.1 (SnapM.cells m) rfl (SnapM.cells_one m) w5.heap.size hbox (by rw [hml.out]; omega) hmid.2
        have hL7 : LI SnapM.cells SnapM.At H w w7 rb 88 2 v7 (ms ++ [m]) r' := LI.step snapAt_ok hL.out hlt.out.2 (Nat.le_trans hlt.out.1 (Nat.le_of_lt hlt.out.2)) hO5 hR5 hAt hrow hg hat
        have hP7 : Hid (listP snapP (j + 1) l = some ((ms ++ [m]).map SnapM.e, r')) := hid (by rw [List.map_append, List.map_singleton, hmx]; exact listP_next hP.out hp)
        obtain ⟨a7, c7, hv7⟩ := hL7.val
        rw [List.length_append, hml.out, List.length_singleton] at hv7
        subst hv7
        replace hL7 := hid hL7
        clear hmid hbox hrow hg hat hAt hR5 hO5 hp hmx
        go_wp2_with (at_builtin; refine Lib.wpList_append_run _ rfl _ _ _ _ rfl _ _ rfl rfl _ _ hrun ?_)
        go_roundw
        case rel => exact ⟨j + 1, ms ++ [m], r', by omega, by go_num, hL7.out, hP7.out⟩
        case measure => simp [Go.RowKit.intOf]; omega
      · have hP7 := hid (listP_stop hP.out hp hjn)
        have hO7 := hid (hL.out.out.trans hO5)
        clear hp hO5
        go_wp2_with fail
        exact ⟨rfl, .inr ⟨hP7.out, rfl, hO7.out⟩⟩
    · obtain rfl : j = n := by omega
      go_wp2_with fail
      go_ret
      exact .inl ⟨_, r, .slice ua j uc, hP.out, rfl, ⟨ms, rfl, ⟨ua, uc, by rw [hml.out]⟩, hL.out.row, hL.out.els⟩, hL.out.rd, hL.out.out⟩

set_option maxHeartbeats 2000000 in
set_option maxRecDepth 100000 in
theorem rset_any (H rb : Nat) (l : List Int) (w : World) (hR : RdL H w rb l) :
    Calls Tryz.prog 195 #[.pointer (some ⟨rb, 0, none⟩)] w fun e w' => RetRx H w rb (setP l) (fun x v w' => ∃ m : SetM, SetM.x m = x ∧ v = .agg #[.string m.v.name, .slice m.v.fa m.v.fn m.v.fc, .slice m.v.sa m.v.sn m.v.sc] ∧ SetM.At (fun b => w.heap.size ≤ b) w' m) e w' := by
  have hmf : ∀ (fn : Fn) (first cap : Array Value) (w : World), (Instr.makeFunc fn first cap).run Tryz.prog w = .ok (.func fn first cap) w := fun _ _ _ _ => rfl
  have hlt := hid hR.lt
  have b0 := hid (below_alloc w (.cells #[.string ⟨#[]⟩, .slice none 0 0, .slice none 0 0] 47))
  have k0 : Hid (CellsAt _ w.heap.size #[.string ⟨#[]⟩, .slice none 0 0, .slice none 0 0] 47) := hid (cellsAt_alloc w _ _)
  replace hR := hid (hR.below b0.out)
  have hO := hid (Out.of_below (g := rb) b0.out)
  have hne : Hid (w.heap.size ≠ rb) := hid (by have := hlt.out; omega)
  have hsz : Hid ((w.alloc (.cells #[.string ⟨#[]⟩, .slice none 0 0, .slice none 0 0] 47)).heap.size = w.heap.size + 1) := hid (by simp)
  clear b0
  go_enter Tryz.func195, Tryz.ntmps195
  go_upto_region 1 with fail
  generalize w.alloc (.cells #[.string ⟨#[]⟩, .slice none 0 0, .slice none 0 0] 47) = w0 at *
  go_wp2_with fail
  refine (rname_any H rb l w0 hR.out).mono ?_
  rintro e w1 (⟨s, l1, v, hp1, rfl, ⟨rfl, hs⟩, hR1, hO1⟩ | ⟨hp1, rfl, hO1⟩)
  · replace hp1 := hid hp1
    replace hR1 := hid hR1
    replace k0 := hid (Out.cells hO1 k0.out hne.out)
    have hs1 : Hid (w.heap.size + 1 ≤ w1.heap.size) := hid (by have := hO1.size; have := hsz.out; omega)
    replace hO := hid (hO.out.trans hO1)
    clear hR hO1
    go_wp2_with fail
    refine (rfiles_any H rb l1 w1 hR1.out).mono ?_
    rintro e w2 (⟨fs, l2, v, hp2, rfl, ⟨ms, hms, hV⟩, hR2, hO2⟩ | ⟨hp2, rfl, hO2⟩)
    · obtain ⟨va, vc, hv⟩ := hV.val
      subst hv
      obtain ⟨_, hE, hcap⟩ := ents_of hV
      rw [List.map_id] at hms
      subst hms
      replace hp2 := hid hp2
      replace hR2 := hid hR2
      replace k0 := hid (Out.cells hO2 k0.out hne.out)
      have hs2 : Hid (w.heap.size + 1 ≤ w2.heap.size) := hid (Nat.le_trans hs1.out hO2.size)
      replace hO := hid (hO.out.trans hO2)
      replace hE := hid (hE.weaken (R := fun b => w.heap.size + 1 ≤ b) (fun b _ q => Nat.le_trans hs1.out q))
      replace hcap := hid hcap
      clear hR1 hO2 hV
      generalize ms.length = fn at *
      go_wp2_with fail
      refine (number_any H rb l2 w2 hR2.out hR2.out.byt).mono ?_
      rintro e w3 (⟨n, l3, v, hp3, rfl, ⟨rfl, hn0, hn1⟩, hR3, hO3⟩ | ⟨hp3, rfl, hO3⟩)
      · obtain ⟨m, rfl⟩ : ∃ m : Nat, n = (m : Int) := ⟨n.toNat, by omega⟩
        replace hp3 := hid hp3
        replace hR3 := hid hR3
        replace k0 := hid (Out.cells hO3 k0.out hne.out)
        have hs3 : Hid (w.heap.size + 1 ≤ w3.heap.size) := hid (Nat.le_trans hs2.out hO3.size)
        replace hO := hid (hO.out.trans hO3)
        replace hE := hid ((Only.of_out (M := fun k => k = rb) hO3 rfl).ents hE.out (fun b q e => by have := hlt.out; omega))
        clear hR2 hO3
        go_wp2_with fail
        refine (rlistS_any H rb m l3 w3 hR3.out (by omega)).mono ?_
        rintro e w4 (⟨ss, l4, v, hp4, rfl, ⟨ns, hns, hVS⟩, hR4, hO4⟩ | ⟨hp4, rfl, hO4⟩)
        · obtain ⟨ya, yc, hv⟩ := hVS.val
          subst hv
          obtain ⟨_, hSn, hcapS⟩ := snaps_of hVS
          subst hns
          have hP : Hid (setP l = some (⟨s, ms, ns.map SnapM.e⟩, l4)) := hid (by unfold setP snapsP; rw [hp1.out]; simp only; rw [hp2.out]; simp only; rw [hp3.out]; simp only [Int.toNat_natCast]; rw [hp4])
          replace hR4 := hid hR4
          replace k0 := Out.cells hO4 k0.out hne.out
          replace hO := hid (hO.out.trans hO4)
          replace hE := (Only.of_out (M := fun k => k = rb) hO4 rfl).ents hE.out (fun b q e => by have := hlt.out; omega)
          have d0 := k0.cell 0
          have d1 := k0.cell 1
          have d2 := k0.cell 2
          have e0 := k0.frozen 0
          have e1 := k0.frozen 1
          have e2 := k0.frozen 2
          simp at d0 d1 d2
          replace k0 := hid k0
          have on : Only (fun k => k = w.heap.size) w4 (put3v w4 w.heap.size (.string s) (.slice va fn vc) (.slice ya ns.length yc)) := Only.of_kept (kept_put3v w4 w.heap.size (.string s) (.slice va fn vc) (.slice ya ns.length yc)) rfl
          have hE' := hid (on.ents hE (fun b q e => by omega))
          have hSn' := hid (on.snaps (hSn.weaken (R := fun b => w.heap.size + 1 ≤ b) (fun b _ q => Nat.le_trans hs3.out q)) (fun b q e => by omega))
          replace hcapS := hid hcapS
          clear hR3 hO4 hp4 hVS hE hSn on
          generalize ns.length = sn at *
          go_wp2_with fail
          refine bodyPost_ret (v := .agg #[.string s, .slice va fn vc, .slice ya sn yc]) ?_ rfl (fin_rd hP.out hR4.out hO.out (kept_put3v w4 w.heap.size _ _ _) (Nat.le_refl _) hlt.out ⟨⟨⟨s, ms, ns.map SnapM.e⟩, ⟨s, va, fn, vc, ya, sn, yc⟩⟩, rfl, rfl, rfl, by simp only; unfold maxLen; omega, hE'.out.weaken (fun b _ q => by omega), hSn'.out.weaken (fun b _ q => by omega), hcap.out, hcapS.out⟩)
          exact results_cell_row rfl _ _ w.heap.size _ _ _ _ rfl (cells_put3v (.string s) (.slice va fn vc) (.slice ya sn yc) k0.out) Tryz.underlying47 rfl (by kernel_rfl)
        · have hP : Hid (setP l = none) := hid (by unfold setP snapsP; rw [hp1.out]; simp only; rw [hp2.out]; simp only; rw [hp3.out]; simp only [Int.toNat_natCast]; rw [hp4])
          replace hO := hid (hO.out.trans hO4)
          clear hp4 hO4
          go_wp2_with fail
          exact ⟨rfl, .inr ⟨hP.out, rfl, hO.out⟩⟩
      · have hP : Hid (setP l = none) := hid (by unfold setP snapsP; rw [hp1.out]; simp only; rw [hp2.out]; simp only; rw [hp3])
        replace hO := hid (hO.out.trans hO3)
        clear hp3 hO3
        go_wp2_with fail
        exact ⟨rfl, .inr ⟨hP.out, rfl, hO.out⟩⟩
    · have hP : Hid (setP l = none) := hid (by unfold setP; rw [hp1.out]; simp only; rw [hp2])
      replace hO := hid (hO.out.trans hO2)
      clear hp2 hO2
      go_wp2_with fail
      exact ⟨rfl, .inr ⟨hP.out, rfl, hO.out⟩⟩
  · have hP : Hid (setP l = none) := hid (by unfold setP; rw [hp1])
    replace hO := hid (hO.out.trans hO1)
    clear hp1 hO1
    go_wp2_with fail
    exact ⟨rfl, .inr ⟨hP.out, rfl, hO.out⟩⟩

set_option maxHeartbeats 2000000 in
set_option maxRecDepth 100000 in
theorem rlistX_any (H rb n : Nat) (l : List Int) (w : World) (hR : RdL H w rb l) (hn : n < 65536) :
    Calls Tryz.prog 194 #[.int .i64 n, .func (.func 195) #[.pointer (some ⟨rb, 0, none⟩)] #[]] w fun e w' => RetRx H w rb (listP setP n l) (fun xs v w' => ∃ ms : List SetM, ms.map SetM.x = xs ∧ ListV SetM.cells SetM.At w.heap.size 47 3 ms v w') e w' := by
  obtain ⟨i0, hi, hz0, hz1, hz2⟩ := info_parts Tryz.infoX
  have hlt := hid hR.lt
  replace hR := hid hR
  go_enter Tryz.func194, Tryz.ntmps194
  go_wp2_with fail
  go_loopw [5, 7] (fun u v wr => ∃ (j : Nat) (ms : List SetM) (r : List Int), j ≤ n ∧ v = .int .i64 j ∧ LI SetM.cells SetM.At H w wr rb 47 3 u ms r ∧ listP setP j l = some (ms.map SetM.x, r)) (fun _ v _ => n - (Go.RowKit.intOf v).toNat)
  case atStart => exact ⟨0, [], l, Nat.zero_le _, rfl, LI.start hR.out, rfl⟩
  case round =>
    clear hR
    obtain ⟨j, ms, r, hj, rfl, hL, hP⟩ := hrel
    have hml := hid (show ms.length = j by have := listP_len hP; simpa using this)
    obtain ⟨ua, uc, hu⟩ := hL.val
    rw [hml.out] at hu
    subst hu
    replace hP := hid hP
    replace hL := hid hL
    by_cases hjn : j < n
    · go_wp2_with fail
      refine (rset_any H rb r wr hL.out.rd).mono ?_
      rintro e w5 (⟨x, r', v, hp, rfl, ⟨m, hmx, rfl, hAt⟩, hR5, hO5⟩ | ⟨hp, rfl, hO5⟩)
      · have hmid := LI.mid (m := m) setAt_ok hL.out hlt.out.2 hO5 hR5 47
        have hbox : CellsAt (w5.alloc (.cells #[.string m.v.name, .slice m.v.fa m.v.fn m.v.fc, .slice m.v.sa m.v.sn m.v.sc] 47)) w5.heap.size (SetM.cells m).toArray 47 := cellsAt_alloc w5 _ _
        obtain ⟨v7, w7, hrun, hrow, hg, hat⟩ := run_append_one 40 40 47 47 i0 _ 3 64 Tryz.underlying40 hi hz0 hz1 hz2 rfl (by decide) (by decide) w.heap.size (w5.alloc (.cells #[.string m.v.name, .slice m.v.fa m.v.fn m.v.fc, .slice m.v.sa m.v.sn m.v.sc] 47)) (.slice ua j uc) ms.length _ hmid.1 (SetM.cells m) rfl (SetM.cells_one m) w5.heap.size hbox (by rw [hml.out]; omega) hmid.2
        have hL7 : LI SetM.cells SetM.At H w w7 rb 47 3 v7 (ms ++ [m]) r' := LI.step setAt_ok hL.out hlt.out.2 (Nat.le_trans hlt.out.1 (Nat.le_of_lt hlt.out.2)) hO5 hR5 hAt hrow hg hat
        have hP7 : Hid (listP setP (j + 1) l = some ((ms ++ [m]).map SetM.x, r')) := hid (by rw [List.map_append, List.map_singleton, hmx]; exact listP_next hP.out hp)
        obtain ⟨a7, c7, hv7⟩ := hL7.val
        rw [List.length_append, hml.out, List.length_singleton] at hv7
        subst hv7
        replace hL7 := hid hL7
        clear hmid hbox hrow hg hat hAt hR5 hO5 hp hmx
        go_wp2_with (at_builtin; refine Lib.wpList_append_run _ rfl _ _ _ _ rfl _ _ rfl rfl _ _ hrun ?_)
        go_roundw
        case rel => exact ⟨j + 1, ms ++ [m], r', by omega, by go_num, hL7.out, hP7.out⟩
        case measure => simp [Go.RowKit.intOf]; omega
      · have hP7 := hid (listP_stop hP.out hp hjn)
        have hO7 := hid (hL.out.out.trans hO5)
        clear hp hO5
        go_wp2_with fail
        exact ⟨rfl, .inr ⟨hP7.out, rfl, hO7.out⟩⟩
    · obtain rfl : j = n := by omega
      go_wp2_with fail
      go_ret
      exact .inl ⟨_, r, .slice ua j uc, hP.out, rfl, ⟨ms, rfl, ⟨ua, uc, by rw [hml.out]⟩, hL.out.row, hL.out.els⟩, hL.out.rd, hL.out.out⟩
end Go.Proofs.YtihkljfcplfldaaGreat
