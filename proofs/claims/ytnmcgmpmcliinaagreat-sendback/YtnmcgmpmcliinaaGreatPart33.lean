/-
  SndN in one text. Nothing here is trusted.
-/
import Derived.Test.YtnmcgmpmcliinaaGreatPart32
import Derived.Test.YtnmcgmpmcliinaaGreatPart12
set_option linter.unusedVariables false
namespace Go.Proofs.YtnmcgmpmcliinaaGreat
open Go.RowKit

/-- the files that only old has -/
def goneL (old now : List Ent) : List DifE := (old.filter fun e => (look now e.name).isNone).map fun e => ⟨1, e.name, 0, []⟩
theorem goneL_next {old now : List Ent} {i : Nat} {x : Ent} (h : old[i]? = some x) : goneL (old.take (i + 1)) now = goneL (old.take i) now ++ (if (look now x.name).isNone then [⟨1, x.name, 0, []⟩] else []) := by
  obtain ⟨h1, rfl⟩ := List.getElem?_eq_some_iff.1 h
  unfold goneL
  rw [List.take_add_one, List.getElem?_eq_getElem h1, List.filter_append, List.map_append]
  congr 1
  by_cases hb : (look now old[i].name).isNone = true
  · simp [hb]
  · simp [hb]

set_option maxHeartbeats 2000000 in
set_option maxRecDepth 100000 in
theorem gone_any (Q R : Nat → Prop) (a : Option Addr) (n c : Nat) (old : List Ent) (a' : Option Addr) (n' c' : Nat) (now : List Ent) (w : World) (hn : n ≤ 900) (hn' : n' ≤ 900) (h : EntsAt Q w a n old) (h' : EntsAt R w a' n' now) :
    Calls Tryz.prog 38 #[.slice a n c, .slice a' n' c'] w fun e w' => (∃ v ms, e = .returned v ∧ DRow w.heap.size w' v ms ∧ ms.map (·.e) = goneL old now) ∧ Below w.heap.size w w' := by
  have hl := h.1
  replace h := hid h
  replace h' := hid h'
  go_enter Tryz.func38, Tryz.ntmps38
  go_wp2_with fail
  go_loopw [5, 12] (fun u v wr => ∃ (i : Nat) (ms : List DifM), i ≤ n ∧ v = .int .i64 i ∧ Below w.heap.size w wr ∧ DRow w.heap.size wr u ms ∧ ms.map (·.e) = goneL (old.take i) now ∧ ms.length ≤ i) (fun _ v _ => n - (Go.RowKit.intOf v).toNat)
  case atStart => exact ⟨0, [], Nat.zero_le _, rfl, Below.refl _ _, DRow.nil _ _, by simp [goneL], Nat.le_refl _⟩
  case round =>
    obtain ⟨i, ms, hin, rfl, bel, hD, hms, hml⟩ := hrel
    obtain ⟨ua, uc, hu, _, _⟩ := hD.val
    subst hu
    replace hD := hid hD
    replace hms := hid hms
    by_cases hlt : i < n
    · have hE := h.out.below bel
      obtain ⟨b, off, rfl, hb, _, hc⟩ := hE.2.2 (by omega)
      have hx := hc i hlt
      have c0 := hx.c0
      have c1 := hx.c1
      have c2 := hx.c2
      have hil : i < old.length := by omega
      have hxe : old[i]? = some (old.getD i Ent.zero) := by simp [List.getD, hil]
      have hxo := hid (h.out.2.1 _ (h.out.getD hlt))
      clear hE hc hx
      generalize old.getD i Ent.zero = x at *
      replace hxe := hid hxe
      have bE := below_alloc wr (.cells #[.string x.name, .int .i64 x.root, .int .i64 x.size] 62)
      have kx := cellsAt_alloc wr #[.string x.name, .int .i64 x.root, .int .i64 x.size] 62
      have hD1 := hid (hD.out.below bE)
      have hN1 := hid ((h'.out.below bel).below bE)
      replace bE := hid bE
      replace kx := hid kx
      go_wp2_with fail
      refine (sfind_any R a' n' c' now x.name _ (by omega) hN1.out).mono ?_
      rintro e w1 ⟨rfl, b1⟩
      have kx1 := kx.out.below b1
      have e0 := kx1.cell 0
      simp at e0
      have hD2 := hD1.out.below b1
      have bF := below_alloc w1 (.cells #[.int .i64 (rootO (look now x.name)), .int .i64 (sizeO (look now x.name))] 60)
      have e1 := (kx1.below bF).cell 0
      simp at e1
      have bel1 := hid ((Below.tr bel bE.out).trans (b1.mono (Nat.le_trans bel.size bE.out.size)))
      have hwz := hid (Nat.le_trans bel.size (Nat.le_trans bE.out.size b1.size))
      clear kx1 hD1 hN1
      by_cases hb0 : (look now x.name).isSome = true
      · rw [hb0]
        have hgn := hid (goneL_next (now := now) hxe.out)
        have hD3 := hid (hD2.below bF)
        have bel3 := hid (bel1.out.trans (bF.mono hwz.out))
        have hnn : Hid ((look now x.name).isNone = false) := hid (by cases hh : look now x.name <;> simp_all)
        clear hb0 hD2
        replace bF := hid bF
        generalize rootO (look now x.name) = r0 at *
        generalize sizeO (look now x.name) = s0 at *
        go_wp2_with fail
        go_roundw
        case rel => exact ⟨i + 1, ms, by omega, by go_num, bel3.out, hD3.out, by rw [hgn.out, hnn.out, hms.out]; simp, by omega⟩
        case measure => simp [Go.RowKit.intOf]; omega
      · have hb1 : (look now x.name).isSome = false := by simpa using hb0
        rw [hb1]
        have hgn := hid (goneL_next (now := now) hxe.out)
        have hnn : Hid ((look now x.name).isNone = true) := hid (by cases hh : look now x.name <;> simp_all)
        have bG := below_alloc (w1.alloc (.cells #[.int .i64 (rootO (look now x.name)), .int .i64 (sizeO (look now x.name))] 60)) (.cells #[.int .i64 1, .string x.name, .int .i64 0, .slice none 0 0] 104)
        have kg := cellsAt_alloc2 w1 (.cells #[.int .i64 (rootO (look now x.name)), .int .i64 (sizeO (look now x.name))] 60) #[.int .i64 1, .string x.name, .int .i64 0, .slice none 0 0] 104
        obtain ⟨v7, w7, hrun, hD7, b7, _, _⟩ := hD2.push hwz.out (Below.tr bF bG) ⟨⟨1, x.name, 0, []⟩, none, 0, 0⟩ (w1.heap.size + 1) kg (dif_at0 _ _ 1 x.name 0 hxo.out.1 (by unfold I64; omega) (by unfold I64; omega)) (by omega) 53
        obtain ⟨a7, c7, hv7, _, _⟩ := hD7.val
        rw [List.length_append, List.length_singleton] at hv7
        subst hv7
        have bel3 := hid (bel1.out.trans b7)
        replace hD7 := hid hD7
        replace bF := hid bF
        replace bG := hid bG
        replace kg := hid kg
        clear hb0 hb1 hD2 b7
        generalize rootO (look now x.name) = r0 at *
        generalize sizeO (look now x.name) = s0 at *
        go_wp2_with (at_builtin; refine Lib.wpList_append_run _ rfl _ _ _ _ rfl _ _ rfl rfl _ _ hrun ?_)
        clear hrun
        go_wp2_with fail
        go_roundw
        case rel => exact ⟨i + 1, ms ++ [⟨⟨1, x.name, 0, []⟩, none, 0, 0⟩], by omega, by go_num, bel3.out, by rw [List.length_append, List.length_singleton] at *; exact hD7.out, by rw [hgn.out, hnn.out, List.map_append, hms.out]; simp, by simp; omega⟩
        case measure => simp [Go.RowKit.intOf]; omega
    · obtain rfl : i = n := by omega
      have htk : old.take i = old := List.take_of_length_le (by omega)
      rw [htk] at hms
      go_wp2_with fail
      go_ret
      exact ⟨⟨_, ms, rfl, hD.out, hms.out⟩, bel⟩

/-- runs, without memory: what place i adds -/
def runStep (s : Nat) (l : List (Nat × Nat)) (i : Nat) : List (Nat × Nat) :=
  if s ≤ 4 * i then l else match l.getLast? with
    | some r => if r.2 = 4 * i then l.dropLast ++ [(r.1, min (4 * i + 4) s)] else l ++ [(4 * i, min (4 * i + 4) s)]
    | none => [(4 * i, min (4 * i + 4) s)]
def runsL (ps : List Nat) (s : Nat) : List (Nat × Nat) := ps.foldl (runStep s) []
theorem runsL_next (ps : List Nat) (s i : Nat) : runsL (ps ++ [i]) s = runStep s (runsL ps s) i := by simp [runsL]
theorem runsL_take {ps : List Nat} {s j p : Nat} (h : ps[j]? = some p) : runsL (ps.take (j + 1)) s = runStep s (runsL (ps.take j) s) p := by
  obtain ⟨h1, rfl⟩ := List.getElem?_eq_some_iff.1 h
  rw [List.take_add_one, List.getElem?_eq_getElem h1]
  exact runsL_next _ _ _
theorem runs_still (s : Nat) : ∀ (ps : List Nat) (l : List (Nat × Nat)), (∀ p ∈ ps, s ≤ 4 * p) → ps.foldl (runStep s) l = l
  | [], _, _ => rfl
  | p :: ps, l, h => by
    have h1 : runStep s l p = l := by unfold runStep; rw [if_pos (h p List.mem_cons_self)]
    rw [List.foldl_cons, h1]
    exact runs_still s ps l fun q hq => h q (List.mem_cons_of_mem _ hq)
theorem runs_break {ps : List Nat} {s j p : Nat} (hr : ps.Pairwise (· < ·)) (h : ps[j]? = some p) (hp : s ≤ 4 * p) : runsL ps s = runsL (ps.take j) s := by
  obtain ⟨h1, rfl⟩ := List.getElem?_eq_some_iff.1 h
  have e : ps = ps.take j ++ ps.drop j := (List.take_append_drop j ps).symm
  have e2 : runsL ps s = (ps.drop j).foldl (runStep s) ((ps.take j).foldl (runStep s) []) := by
    unfold runsL
    rw [← List.foldl_append, ← e]
  rw [e2]
  refine runs_still s _ _ (fun q hq => ?_)
  rw [← List.getElem_cons_drop h1] at hq
  rcases List.mem_cons.1 hq with rfl | hq
  · exact hp
  · have e3 : ps = ps.take j ++ ps[j] :: ps.drop (j + 1) := by rw [List.getElem_cons_drop, List.take_append_drop]
    rw [e3, List.pairwise_append, List.pairwise_cons] at hr
    have := hr.2.1.1 q hq
    omega
def run2 (r : Nat × Nat) : List Value := [.int .i64 (r.1 : Int), .int .i64 (r.2 : Int)]
theorem run2_len (r : Nat × Nat) : (run2 r).length = 2 := rfl
def runCells (l : List (Nat × Nat)) : List Value := l.flatMap run2
theorem runCells_len (l : List (Nat × Nat)) : (runCells l).length = l.length * 2 := flat_len run2_len l
/-- a row of runs of one's own -/
def RRow (base : Nat) (w : World) (v : Value) (l : List (Nat × Nat)) : Prop := w.ownsRow base 140 2 v l.length (runCells l)
theorem RRow.val {base : Nat} {w : World} {v : Value} {l : List (Nat × Nat)} (h : RRow base w v l) : ∃ a c, v = .slice a l.length c ∧ l.length ≤ c ∧ (a = none → l.length = 0 ∧ c = 0) ∧ (l ≠ [] → ∃ g, a = some ⟨g, 0, none⟩ ∧ g < w.heap.size ∧ base ≤ g) := by
  rcases h.2 with ⟨hv, h0⟩ | ⟨g, cap, cur, hv, hb, hg, hc, _⟩
  · exact ⟨none, 0, by rw [hv, h0], by omega, fun _ => ⟨h0, rfl⟩, fun f => absurd (List.eq_nil_of_length_eq_zero h0) f⟩
  · exact ⟨_, _, hv, hc, fun f => (by cases f), fun _ => ⟨g, rfl, (h.lt g (by rw [hv]; rfl)).2, hb⟩⟩
theorem RRow.cell {base : Nat} {w : World} {g n c : Nat} {l : List (Nat × Nat)} (h : RRow base w (.slice (some ⟨g, 0, none⟩) n c) l) {i : Nat} (hi : i < l.length) : w.cell? ⟨g, i * 2, none⟩ = some (.int .i64 (l[i].1 : Nat)) ∧ w.cell? ⟨g, i * 2 + 1, none⟩ = some (.int .i64 (l[i].2 : Nat)) := by
  have e0 : n = l.length := by
    rcases h.2 with ⟨hv, _⟩ | ⟨_, _, _, hv, _⟩
    · cases hv
    · simp only [Value.slice.injEq] at hv; exact hv.2.1
  subst e0
  have f := fun r (hr : r < 2) => (h.cellAt (i * 2 + r) (by omega)).trans (flat_get run2_len l i r hi hr)
  exact ⟨f 0 (by omega), f 1 (by omega)⟩
theorem Tryz.infoRun : (Tryz.prog.info? 140).map (fun i => (i.zero, i.size, i.bytes)) = some (some (.agg #[.int .i64 0, .int .i64 0]), 2, 16) := by kernel_rfl
theorem RRow.push {base : Nat} {w w1 : World} {v : Value} {l : List (Nat × Nat)} (h : RRow base w v l) (hb : base ≤ w.heap.size) (b1 : Below w.heap.size w w1) (r : Nat × Nat) (g : Nat) (hbox : CellsAt w1 g #[.int .i64 r.1, .int .i64 r.2] 140) (hn : l.length ≤ 1000) (ty : TypeId) :
    ∃ v' w7, (Builtin.append_ #[138, 138] ty #[v, .slice (some ⟨g, 0, none⟩) 1 1]).run Tryz.prog w1 = .ok v' w7 ∧ RRow base w7 v' (l ++ [r]) ∧ Below base w w7 := by
  obtain ⟨i0, hi, hz0, hz1, hz2⟩ := info_parts Tryz.infoRun
  obtain ⟨v', w', hr, ho, hgr, _, hat⟩ := run_append_own_at (P := Tryz.prog) w1 base 138 ty 140 i0 _ 2 16 Tryz.underlying138 hi hz0 hz1 hz2 rfl (by decide) v l.length _ (row_below h b1) ⟨g, 0, none⟩ 1 1 [.int .i64 r.1, .int .i64 r.2] rfl (fun j u hj => by
    have hadd : (⟨g, 0, none⟩ : Addr).add j = ⟨g, j, none⟩ := by unfold Addr.add; split <;> simp_all
    rw [hadd, hbox.cell j]
    simpa using hj) (fun u hu => by
      simp only [List.mem_cons, List.not_mem_nil, or_false] at hu
      rcases hu with rfl | rfl <;> rfl) (by unfold maxLen; omega) (by omega) (Nat.le_trans hb b1.size)
  have og : Only (fun b => v.ownBlock = some b) w1 w' := only_grown hgr (fun k hk => hk)
  refine ⟨v', w', hr, ?_, (b1.mono hb).trans (og.below (fun k hk => (h.lt k hk).1) (Nat.le_trans hb b1.size))⟩
  unfold RRow runCells
  rw [List.length_append, List.flatMap_append]
  exact ho
theorem RRow.last {base : Nat} {w : World} {g n c : Nat} {l : List (Nat × Nat)} {r : Nat × Nat} {t : Nat} (h : RRow base w (.slice (some ⟨g, 0, none⟩) n c) (l ++ [r])) : RRow base (w.setCell ⟨g, l.length * 2 + 1, none⟩ (.int .i64 t)) (.slice (some ⟨g, 0, none⟩) n c) (l ++ [(r.1, t)]) := by
  have e0 : n = (l ++ [r]).length := by
    rcases h.2 with ⟨hv, _⟩ | ⟨_, _, _, hv, _⟩
    · cases hv
    · simp only [Value.slice.injEq] at hv; exact hv.2.1
  subst e0
  have h1 := (h.stored (l.length * 2 + 1) (.int .i64 t)).1
  have e1 : (runCells (l ++ [r])).set (l.length * 2 + 1) (.int .i64 t) = runCells (l ++ [(r.1, t)]) := by
    unfold runCells
    rw [List.flatMap_append, List.flatMap_append, List.set_append]
    have hl : (l.flatMap run2).length = l.length * 2 := flat_len run2_len l
    rw [if_neg (by omega), hl]
    congr 1
    rw [show l.length * 2 + 1 - l.length * 2 = 1 by omega]
    rfl
  rw [e1] at h1
  unfold RRow
  have e2 : (l ++ [(r.1, t)]).length = (l ++ [r]).length := by simp
  rw [e2]
  exact h1
theorem RRow.below {base : Nat} {w w' : World} {v : Value} {l : List (Nat × Nat)} (h : RRow base w v l) (b : Below w.heap.size w w') : RRow base w' v l := row_below h b

set_option maxHeartbeats 2000000 in
set_option maxRecDepth 100000 in
theorem runs_any (Q : Nat → Prop) (a : Option Addr) (n c s : Nat) (ps : List Nat) (w : World) (hs : s ≤ 256) (h : NumsAt Q .i64 w a n (ps.map fun j : Nat => (j : Int))) (h64 : ∀ p ∈ ps, p < 64) (hr : ps.Pairwise (· < ·)) (hn : n ≤ 64) :
    Calls Tryz.prog 75 #[.slice a n c, .int .i64 s] w fun e w' => (∃ v, e = .returned v ∧ RRow w.heap.size w' v (runsL ps s)) ∧ Below w.heap.size w w' := by
  have hl := h.1
  rw [List.length_map] at hl
  replace h := hid h
  replace hr := hid hr
  replace h64 := hid h64
  go_enter Tryz.func75, Tryz.ntmps75
  go_wp2_with fail
  go_loopw [5, 13] (fun u v wr => ∃ i : Nat, i ≤ n ∧ v = .int .i64 i ∧ Below w.heap.size w wr ∧ RRow w.heap.size wr u (runsL (ps.take i) s) ∧ (runsL (ps.take i) s).length ≤ i) (fun _ v _ => n - (Go.RowKit.intOf v).toNat)
  case atStart => exact ⟨0, Nat.zero_le _, rfl, Below.refl _ _, World.ownsRow_nil _ _ _ _, Nat.le_refl _⟩
  case round =>
    obtain ⟨i, hin, rfl, bel, hD, hml⟩ := hrel
    by_cases hlt : i < n
    · have hE := h.out.below bel
      obtain ⟨b, off, rfl, hb, _, hc⟩ := hE.2.2 (by omega)
      have c0 := hc i hlt
      have hil : i < ps.length := by omega
      have hgd : (ps.map fun j : Nat => (j : Int)).getD i 0 = ((ps[i] : Nat) : Int) := by simp [List.getD, hil]
      rw [hgd] at c0
      have hxe : ps[i]? = some ps[i] := List.getElem?_eq_getElem hil
      have hp64 := h64.out ps[i] (List.getElem_mem hil)
      have hnx := hid (runsL_take (s := s) hxe)
      have hbr : Hid (s ≤ 4 * ps[i] → runsL ps s = runsL (ps.take i) s) := hid (runs_break hr.out hxe)
      clear hE hc hgd hxe
      generalize ps[i] = p at *
      generalize runsL (ps.take i) s = l at *
      obtain ⟨ua, uc, hu, huc, hun, hug⟩ := hD.val
      subst hu
      by_cases hbk : s ≤ 4 * p
      · have e := hbr.out hbk
        have hge : ((s : Int) ≤ (p : Int) * 4) := by omega
        replace hD := hid hD
        replace e := hid e
        clear hug hun
        go_wp2_with fail
        go_ret
        exact ⟨⟨_, rfl, by rw [e.out]; exact hD.out⟩, bel⟩
      · have hge : ¬ ((s : Int) ≤ (p : Int) * 4) := by omega
        have hbox : CellsAt (wr.alloc (.cells #[.int .i64 ((p : Int) * 4), .int .i64 (min (((p : Int) + 1) * 4) (s : Int))] 140)) wr.heap.size #[.int .i64 ((p : Int) * 4), .int .i64 (min (((p : Int) + 1) * 4) (s : Int))] 140 := cellsAt_alloc wr _ _
        have bA := below_alloc wr (.cells #[.int .i64 ((p : Int) * 4), .int .i64 (min (((p : Int) + 1) * 4) (s : Int))] 140)
        have ec1 : ((4 * p : Nat) : Int) = (p : Int) * 4 := by omega
        have ec2 : ((min (4 * p + 4) s : Nat) : Int) = min (((p : Int) + 1) * 4) (s : Int) := by omega
        obtain ⟨v7, w7, hrun, hD7, b7⟩ := hD.push bel.size bA (4 * p, min (4 * p + 4) s) wr.heap.size (by show CellsAt _ _ #[.int .i64 ((4 * p : Nat) : Int), .int .i64 ((min (4 * p + 4) s : Nat) : Int)] _; rw [ec1, ec2]; exact hbox) (by omega) 138
        obtain ⟨a7, c7, hv7, _, _, _⟩ := hD7.val
        rw [List.length_append, List.length_singleton] at hv7
        subst hv7
        have bel7 := hid (bel.trans b7)
        replace hD7 := hid hD7
        replace hbox := hid hbox
        replace bA := hid bA
        replace ec1 := hid ec1
        replace ec2 := hid ec2
        clear b7
        rcases List.eq_nil_or_concat l with rfl | ⟨l0, r, hlr⟩
        · replace hD := hid hD
          clear hug hun
          have hst : Hid (runStep s [] p = [] ++ [(4 * p, min (4 * p + 4) s)]) := hid (by unfold runStep; rw [if_neg (by omega)]; rfl)
          go_wp2_with (at_builtin; refine Lib.wpList_append_run _ rfl _ _ _ _ rfl _ _ rfl rfl _ _ hrun ?_)
          clear hrun
          go_wp2_with fail
          go_roundw
          case rel => exact ⟨i + 1, by omega, by go_num, bel7.out, by rw [hnx.out, hst.out]; exact hD7.out, by rw [hnx.out, hst.out]; simp⟩
          case measure => simp [Go.RowKit.intOf]; omega
        · rw [List.concat_eq_append] at hlr
          subst hlr
          obtain ⟨g, rfl, hgl, hgb⟩ := hug (by simp)
          have hcl := (hD.cell (i := l0.length) (by simp)).2
          have hfz : wr.frozen? ⟨g, l0.length * 2 + 1, none⟩ = false := by
            rcases hD.2 with ⟨hv, _⟩ | ⟨g', cap, cur, hv, _, hg', _⟩
            · cases hv
            · simp only [Value.slice.injEq, Option.some.injEq, Addr.mk.injEq, and_true] at hv
              obtain ⟨rfl, _, _⟩ := hv
              exact (CellsAt.frozen (w := wr) (g := g) (cs := cur) (t := 140) hg' _)
          have hlast := hD.last (t := min (4 * p + 4) s)
          simp only [List.getElem_append_right (Nat.le_refl l0.length), Nat.sub_self, List.getElem_cons_zero] at hcl
          have hlen : (l0 ++ [r]).length = l0.length + 1 := by simp
          rw [hlen] at hD huc hml hrun hlast
          rw [hlen]
          have kset : Kept g wr (wr.setCell ⟨g, l0.length * 2 + 1, none⟩ (.int .i64 ((min (4 * p + 4) s : Nat) : Int))) := Kept.setCell (g := g) (Kept.refl _ _) (p := ⟨g, l0.length * 2 + 1, none⟩) rfl _
          have belS := hid (bel.trans (kset.below hgb))
          rw [ec2.out] at belS hlast
          replace hD := hid hD
          replace hlast := hid hlast
          clear kset hug hun hlen
          by_cases hr2 : r.2 = 4 * p
          · have hst : Hid (runStep s (l0 ++ [r]) p = l0 ++ [(r.1, min (4 * p + 4) s)]) := hid (by
              unfold runStep
              rw [if_neg (by omega), List.getLast?_append]
              simp [hr2])
            have hre : ((r.2 : Nat) : Int) = (p : Int) * 4 := by omega
            rw [hre] at hcl
            clear hr2 hre hrun
            go_wp2_with fail
            go_roundw
            case rel => exact ⟨i + 1, by omega, by go_num, belS.out, by rw [hnx.out, hst.out]; have := hlast.out; simp only [List.length_append, List.length_singleton] at *; exact this, by rw [hnx.out, hst.out]; simp; omega⟩
            case measure => simp [Go.RowKit.intOf]; omega
          · have hst : Hid (runStep s (l0 ++ [r]) p = l0 ++ [r] ++ [(4 * p, min (4 * p + 4) s)]) := hid (by
              unfold runStep
              rw [if_neg (by omega), List.getLast?_append]
              simp [hr2])
            have hre : ((((r.2 : Nat) : Int)) == (p : Int) * 4) = false := by
              have : ¬ (((r.2 : Nat) : Int)) = (p : Int) * 4 := by omega
              simp [this]
            replace hr2 := hid hr2
            go_wp2_with (at_builtin; refine Lib.wpList_append_run _ rfl _ _ _ _ rfl _ _ rfl rfl _ _ hrun ?_)
            clear hrun
            go_wp2_with fail
            go_roundw
            case rel => exact ⟨i + 1, by omega, by go_num, bel7.out, by rw [hnx.out, hst.out]; have := hD7.out; simp only [List.length_append, List.length_singleton] at *; exact this, by rw [hnx.out, hst.out]; simp; omega⟩
            case measure => simp [Go.RowKit.intOf]; omega
    · obtain rfl : i = n := by omega
      have htk : ps.take i = ps := List.take_of_length_le (by omega)
      rw [htk] at hD
      obtain ⟨ua, uc, hu, huc, hun, hug⟩ := hD.val
      rw [hu] at hD
      subst hu
      replace hD := hid hD
      clear hug hun
      go_wp2_with fail
      go_ret
      exact ⟨⟨_, rfl, hD.out⟩, bel⟩
end Go.Proofs.YtnmcgmpmcliinaaGreat
