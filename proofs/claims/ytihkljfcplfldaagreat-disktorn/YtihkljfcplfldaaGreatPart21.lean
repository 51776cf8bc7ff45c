/-
  PoolD, ImgA in one text. Nothing here is trusted.
-/
import Derived.Test.YtihkljfcplfldaaGreatPart20
import Derived.Test.YtihkljfcplfldaaGreatPart07
import Derived.Laws.BitsLemmas
import Derived.Deep.AppendLies
set_option linter.unusedVariables false
namespace Go.Proofs.YtihkljfcplfldaaGreat
open Go.RowKit Go.Maps

/-- a pool in memory -/
structure PoolAt (Q : Nat → Prop) (w : World) (a : Option Addr) (n : Nat) (B : Nat → Blk) (ta : Option Addr) (tn : Nat) (l : List TenE) : Prop where
  store : StoreAt w a n B
  tens : TensAt Q w ta tn l
theorem PoolAt.below {Q : Nat → Prop} {w w' : World} {a : Option Addr} {n : Nat} {B : Nat → Blk} {ta : Option Addr} {tn : Nat} {l : List TenE} (h : PoolAt Q w a n B ta tn l) (hb : Below w.heap.size w w') : PoolAt Q w' a n B ta tn l := ⟨h.store.below hb, h.tens.below hb⟩

theorem sumQ_take {l : List TenE} {j : Nat} {t : TenE} (hx : l[j]? = some t) : sumQ (l.take (j + 1)) = sumQ (l.take j) + t.quota := by
  unfold sumQ
  rw [take_next hx, List.map_append, List.sum_append]
  simp
theorem sumQ_nonneg : ∀ {l : List TenE}, (∀ t ∈ l, 0 ≤ t.quota) → 0 ≤ sumQ l
  | [], _ => by simp [sumQ]
  | t :: l, h => by
    have h1 := h t (by simp)
    have h2 := sumQ_nonneg (l := l) (fun y hy => h y (by simp [hy]))
    simp only [sumQ, List.map_cons, List.sum_cons] at *
    omega
theorem sumQ_le : ∀ {l : List TenE}, (∀ t ∈ l, t.quota ≤ 400) → sumQ l ≤ (l.length : Int) * 400
  | [], _ => by simp [sumQ]
  | t :: l, h => by
    have h1 := h t (by simp)
    have h2 := sumQ_le (l := l) (fun y hy => h y (by simp [hy]))
    simp only [sumQ, List.map_cons, List.sum_cons, List.length_cons] at *
    omega
theorem sumQ_take_le {l : List TenE} (j : Nat) (h : ∀ t ∈ l, 0 ≤ t.quota) : sumQ (l.take j) ≤ sumQ l := by
  have e : sumQ l = sumQ (l.take j) + sumQ (l.drop j) := by
    unfold sumQ
    rw [← List.sum_append, ← List.map_append, List.take_append_drop]
  have h2 := sumQ_nonneg (l := l.drop j) (fun t ht => h t (List.mem_of_mem_drop ht))
  omega

/-- what stands of the first j tenants; V has been reached so far -/
structure TensTo (n : Nat) (B : Nat → Blk) (l : List TenE) (j : Nat) (V : List Int) : Prop where
  tens : ∀ t ∈ l.take j, TenOk n B t
  room : 0 < j → sumQ (l.take j) + 90 ≤ n
  uses : ∀ t ∈ l.take j, ∃ m, Uses B (rootsT t) m ∧ m ≤ t.quota
  apart : (l.take j).Pairwise fun t u => ∀ x, Clo B (rootsT t) x → ¬ Clo B (rootsT u) x
  taken : ∀ x, x ∈ V ↔ ∃ t ∈ l.take j, Clo B (rootsT t) x
theorem tensTo_nil (n : Nat) (B : Nat → Blk) (l : List TenE) : TensTo n B l 0 [] := ⟨by simp, fun h => absurd h (by omega), by simp, by simp, by simp⟩
theorem TensTo.next {n : Nat} {B : Nat → Blk} {l : List TenE} {j : Nat} {V L : List Int} {t : TenE} (h : TensTo n B l j V) (hx : l[j]? = some t) (ht : TenOk n B t) (hr : sumQ (l.take (j + 1)) + 90 ≤ n) (hL : Rising L) (hm : ∀ x, x ∈ L ↔ Clo B (rootsT t) x) (hq : (L.length : Int) ≤ t.quota) (hno : ∀ x ∈ L, x ∉ V) : TensTo n B l (j + 1) (V ++ L) := by
  refine ⟨fun y hy => ?_, fun _ => hr, fun y hy => ?_, ?_, fun x => ?_⟩
  · rw [take_next hx] at hy
    rcases List.mem_append.1 hy with hy | hy
    · exact h.tens y hy
    · rw [List.mem_singleton.1 hy]; exact ht
  · rw [take_next hx] at hy
    rcases List.mem_append.1 hy with hy | hy
    · exact h.uses y hy
    · rw [List.mem_singleton.1 hy]; exact ⟨_, ⟨L, hL, hm, rfl⟩, hq⟩
  · rw [take_next hx]
    refine List.pairwise_append.2 ⟨h.apart, by simp, fun u hu v hv x hc hd => ?_⟩
    rw [List.mem_singleton.1 hv] at hd
    exact hno x ((hm x).2 hd) ((h.taken x).2 ⟨u, hu, hc⟩)
  · rw [take_next hx]
    constructor
    · intro hxm
      rcases List.mem_append.1 hxm with h1 | h1
      · obtain ⟨u, hu, hc⟩ := (h.taken x).1 h1
        exact ⟨u, List.mem_append_left _ hu, hc⟩
      · exact ⟨t, by simp, (hm x).1 h1⟩
    · rintro ⟨u, hu, hc⟩
      rcases List.mem_append.1 hu with hu | hu
      · exact List.mem_append_left _ ((h.taken x).2 ⟨u, hu, hc⟩)
      · rw [List.mem_singleton.1 hu] at hc
        exact List.mem_append_right _ ((hm x).2 hc)
theorem uses_le {B : Nat → Blk} {R L : List Int} {q : Int} (hL : Rising L) (hm : ∀ x, x ∈ L ↔ Clo B R x) (h : ∃ m, Uses B R m ∧ m ≤ q) : (L.length : Int) ≤ q := by
  obtain ⟨m, ⟨M, hM, hmM, rfl⟩, hq⟩ := h
  rw [rising_eq hL hM (fun x => (hm x).trans (hmM x).symm)]
  exact hq
theorem taken_twice {n : Nat} {B : Nat → Blk} {l : List TenE} {j : Nat} {V : List Int} {t : TenE} {x : Int} (h : TensTo n B l j V) (hx : l[j]? = some t) (hc : Clo B (rootsT t) x) (hV : x ∈ V) : ¬ PoolOk n B l := by
  intro f
  obtain ⟨u, hu, hd⟩ := (h.taken x).1 hV
  obtain ⟨hj, e⟩ := List.getElem?_eq_some_iff.1 hx
  have hp := f.apart
  rw [← List.take_append_drop j l] at hp
  refine (List.pairwise_append.1 hp).2.2 u hu t ?_ x hd hc
  rw [List.drop_eq_getElem_cons hj, e]
  simp
theorem rising_nodup {L : List Int} (h : Rising L) : L.Nodup := h.imp (fun h e => by subst e; exact absurd h (Int.lt_irrefl _))

set_option maxHeartbeats 8000000 in
set_option maxRecDepth 100000 in
theorem poolCheck_any (Q : Nat → Prop) (a : Option Addr) (n c : Nat) (B : Nat → Blk) (ta : Option Addr) (tn tc : Nat) (l : List TenE) (w : World) (h : PoolAt Q w a n B ta tn l) :
    Calls Tryz.prog 9 #[.agg #[.slice a n c, .slice ta tn tc]] w fun e w' => RetE e (PoolOk n B l) ∧ Below w.heap.size w w' := by
  have hmm := @run_makeMap Tryz.prog
  have b0 := below_alloc w (.cells #[.slice a n c, .slice ta tn tc] 27)
  have k0 : CellsAt _ w.heap.size #[.slice a n c, .slice ta tn tc] 27 := cellsAt_alloc w _ _
  have htl := hid h.tens.1
  replace h := hid (h.below b0)
  replace k0 := hid k0
  go_enter Tryz.func9, Tryz.ntmps9
  go_wp2_with fail
  generalize w.alloc (.cells #[.slice a n c, .slice ta tn tc] 27) = w0 at *
  have p0 := k0.out.cell 0
  have p1 := k0.out.cell 1
  simp at p0 p1
  refine (storeCheck_any a n c B w0 h.out.store).mono ?_
  rintro e w1 ⟨⟨e', rfl, he⟩, b1⟩
  replace he := hid he
  replace p1 := (b1.cell (p := ⟨w.heap.size, 1, none⟩) k0.out.lt).trans p1
  replace p0 := (b1.cell (p := ⟨w.heap.size, 0, none⟩) k0.out.lt).trans p0
  by_cases h0 : e' = 0
  · have h0' : (e' == 0) = true := by simp [h0]
    have hR := hid (he.out.1 h0)
    have hn := hR.out.small
    by_cases h3 : (3 : Int) < (tn : Int)
    · go_wp2_with fail
      go_ret
      exact ⟨retE_no 2 (by omega) (fun f => by have := f.few; rw [htl.out] at this; omega), Below.tr b0 b1⟩
    · have htn : tn ≤ 3 := by omega
      replace h := hid (h.out.below b1)
      replace k0 := hid (k0.out.below b1)
      replace b1 := hid (Below.tr b0 b1)
      have bM := below_alloc w1 (.map #[] 0)
      have hSe := seen_new w1
      have p1M := (bM.cell (p := ⟨w.heap.size, 1, none⟩) k0.out.lt).trans p1
      replace bM := hid bM
      replace hSe := hid hSe
      go_wp2_with fail
      have hlm : (w1.alloc (.map #[] 0)).heap.size = w1.heap.size + 1 := by simp
      replace hlm := hid hlm
      clear p1M
      generalize w1.alloc (.map #[] 0) = wM at *
      clear h3
      go_loopw [4, 31] (fun u v wr => ∃ (j : Nat) (V : List Int), j ≤ tn ∧ v = .int .i64 j ∧ u = .int .i64 ((n : Int) - 90 - sumQ (l.take j)) ∧ Below w1.heap.size w1 wr ∧ w1.heap.size < wr.heap.size ∧ Seen wr w1.heap.size V ∧ TensTo n B l j V) (fun _ v _ => tn - (Go.RowKit.intOf v).toNat)
      case atStart => exact ⟨0, [], Nat.zero_le _, rfl, by simp [sumQ], bM.out, by rw [hlm.out]; omega, hSe.out, tensTo_nil n B l⟩
      case round =>
        clear hSe bM hlm
        obtain ⟨j, V, hj, rfl, rfl, hb, hsz, hS, hTo⟩ := hrel
        have p0r := (hb.cell (p := ⟨w.heap.size, 0, none⟩) k0.out.lt).trans p0
        have p1r := (hb.cell (p := ⟨w.heap.size, 1, none⟩) k0.out.lt).trans p1
        have hsq0 := sumQ_nonneg (l := l.take j) (fun t ht => (hTo.tens t ht).qb.1)
        have hsq1 := sumQ_le (l := l.take j) (fun t ht => (hTo.tens t ht).qb.2)
        have hlj : (l.take j).length ≤ 3 := by rw [List.length_take]; omega
        by_cases hlt : j < tn
        · have hjl : j < l.length := by rw [htl.out]; exact hlt
          have hE' := h.out.tens.below hb
          obtain ⟨eb, off, rfl⟩ : ∃ b off, ta = some ⟨b, off, none⟩ := by
            obtain ⟨b, off, e, _⟩ := hE'.2 (by omega)
            exact ⟨b, off, e⟩
          have hx : l[j]? = some (l.getD j TenE.zero) := by rw [List.getElem?_eq_getElem hjl]; simp [List.getD, hjl]
          obtain ⟨sa, sn, sc, hA⟩ := hE'.ten hlt
          have c0 := hA.c0
          have c1 := hA.c1
          have c2 := hA.c2
          have hTa := hid hA.ok
          have hsumN := hid (sumQ_take hx)
          replace hx := hid hx
          clear hA hE' hjl
          generalize l.getD j TenE.zero = t at *
          have ba := hid (below_alloc wr (.cells #[.int .i64 t.key, .int .i64 t.quota, .slice sa sn sc] 42))
          have k2 : Hid (CellsAt _ wr.heap.size #[.int .i64 t.key, .int .i64 t.quota, .slice sa sn sc] 42) := hid (cellsAt_alloc wr _ _)
          replace hb := hid hb
          replace hS := hid hS
          replace hTo := hid hTo
          go_upto_region 11 with fail
          clear c0 c1 c2 p0r p1r
          replace hTa := hid (hTa.out.below ba.out)
          replace hS := hid (hS.out.out (ba.out.block _ hsz))
          replace hb := hid (Below.tr hb.out ba.out)
          have hsz5 : w1.heap.size < (wr.alloc (.cells #[.int .i64 t.key, .int .i64 t.quota, .slice sa sn sc] 42)).heap.size := Nat.lt_of_lt_of_le hsz ba.out.size
          clear ba
          generalize wr.alloc (.cells #[.int .i64 t.key, .int .i64 t.quota, .slice sa sn sc] 42) = w5 at *
          have q0 := k2.out.cell 0
          have q1 := k2.out.cell 1
          have q2 := k2.out.cell 2
          simp at q0 q1 q2
          have p0r := (hb.out.cell (p := ⟨w.heap.size, 0, none⟩) k0.out.lt).trans p0
          go_wp2_with fail
          refine (checkTenant_any Q a n c B t sa sn sc w5 (h.out.store.below hb.out) hTa.out).mono ?_
          rintro e w6 ⟨⟨e2, rfl, he2⟩, b6⟩
          replace he2 := hid he2
          replace hTa := hid (hTa.out.below b6)
          replace hS := hid (hS.out.out (b6.block _ hsz5))
          have hb6 := hid (Below.tr hb.out b6)
          have q0' := (b6.cell (p := ⟨wr.heap.size, 0, none⟩) k2.out.lt).trans q0
          have q1' := (b6.cell (p := ⟨wr.heap.size, 1, none⟩) k2.out.lt).trans q1
          have q2' := (b6.cell (p := ⟨wr.heap.size, 2, none⟩) k2.out.lt).trans q2
          have p0' := (b6.cell (p := ⟨w.heap.size, 0, none⟩) (cell_lt p0r)).trans p0r
          have hk2 := hid (k2.out.below b6)
          have hsz6 := Nat.lt_of_lt_of_le hsz5 b6.size
          clear q0 q1 q2 p0r b6 hb k2
          by_cases h5 : e2 = 0
          · have h5' : (e2 == 0) = true := by simp [h5]
            have hOk := hid (he2.out.1 h5)
            have hq0 := hOk.out.qb.1
            have hq1 := hOk.out.qb.2
            go_upto_region 15 with fail
            go_wp2_with fail
            refine (poolReach_any Q a n c B t sa sn sc w6 (h.out.store.below hb6.out) hTa.out hR.out hOk.out).mono ?_
            rintro e w7 ⟨⟨la, ln, lc, L, rfl, hNL, hri, hmL⟩, b7⟩
            have hlnL := hid hNL.1
            have hNL' := hid hNL
            have hri' := hid hri
            have hmL' := hid hmL
            have q1'' := (b7.cell (p := ⟨wr.heap.size, 1, none⟩) hk2.out.lt).trans q1'
            replace hS := hid (hS.out.out (b7.block _ hsz6))
            have hb7 := hid (Below.tr hb6.out b7)
            have hsz7 := Nat.lt_of_lt_of_le hsz6 b7.size
            have hL400 : Hid (ln ≤ 400) := hid (by
              rw [← hNL.1]
              have := pigeon n L (rising_nodup hri) (fun x hx => by have := ((hmL x).1 hx).there hR.out hOk.out.rootsOk; exact ⟨this.1, this.2.1⟩)
              omega)
            have hln4 := hL400.out
            clear q0' q1' q2' p0' b7 hb6 hk2 hNL hri hmL hTa
            generalize hrm : (n : Int) - 90 - sumQ (l.take j) = rm at *
            have hrm0 : -2000 ≤ rm := by omega
            have hrm1 : rm ≤ 400 := by omega
            replace hrm := hid hrm
            clear hsq0 hsq1 hlj
            by_cases hneg : rm - t.quota < 0
            · have hneg' : decide (rm - t.quota < 0) = true := by simp [hneg]
              go_wp2_with fail
              go_ret
              refine ⟨retE_no 8 (by omega) (fun f => ?_), Below.tr b1.out hb7.out⟩
              have h1 := f.room (by rw [htl.out]; omega)
              have h2 := sumQ_take_le (l := l) (j + 1) (fun t ht => (f.tens t ht).qb.1)
              rw [hsumN.out] at h2
              have h4 := hrm.out
              omega
            · have hneg' : decide (rm - t.quota < 0) = false := by simp [hneg]
              by_cases hbig : t.quota < (ln : Int)
              · have hbig' : decide (t.quota < (ln : Int)) = true := by simp [hbig]
                go_wp2_with fail
                go_ret
                refine ⟨retE_no 8 (by omega) (fun f => ?_), Below.tr b1.out hb7.out⟩
                have h1 := uses_le hri'.out hmL'.out (f.uses t (List.mem_of_getElem? hx.out))
                rw [hlnL.out] at h1
                omega
              · have hbig' : decide (t.quota < (ln : Int)) = false := by simp [hbig]
                clear hneg' hbig'
                go_wp2_with fail
                clear q1''
                go_loopw [61] (fun v wr' => ∃ i : Nat, i ≤ ln ∧ v = .int .i64 i ∧ w7.grownBy wr' (some w1.heap.size) ∧ Seen wr' w1.heap.size (V ++ L.take i) ∧ ∀ x ∈ L.take i, x ∉ V) (fun v _ => ln - (Go.RowKit.intOf v).toNat)
                case atStart => exact ⟨0, Nat.zero_le _, rfl, ⟨rfl, rfl, rfl, Nat.le_refl _, fun _ _ _ => rfl⟩, by simpa using hS.out, by simp⟩
                case round =>
                  clear hS
                  obtain ⟨i, hi, rfl, hgr, hS, hno⟩ := hrel
                  replace hno := hid hno
                  by_cases hilt : i < ln
                  · have hil : i < L.length := by rw [hlnL.out]; exact hilt
                    obtain ⟨kb, ko, rfl, hkb, hgk, hcc⟩ := hNL'.out.2.2 (by omega)
                    have hck : wr.cell? ⟨kb, ko + i, none⟩ = some (.int .i64 (L.getD i 0)) := (World.cell?_of_block (hgr.block kb hkb (by simp; omega))).trans (hcc i hilt)
                    have hmem : L.getD i 0 ∈ L := hNL'.out.getD hilt
                    have hwf : (Lit.int .i64 (L.getD i 0)).wf = true := hNL'.out.2.1 _ hmem
                    have htk := hid (take_snoc hil)
                    have hnotin : Hid (L.getD i 0 ∉ L.take i) := hid (fun hm => by
                      have e : L.getD i 0 = L[i] := by simp [List.getD, hil]
                      rw [e] at hm
                      obtain ⟨k, hk, he⟩ := List.getElem_of_mem hm
                      rw [List.getElem_take] at he
                      rw [List.length_take] at hk
                      have := List.pairwise_iff_getElem.1 hri'.out k i (by omega) hil (by omega)
                      omega)
                    replace hmem := hid hmem
                    clear hcc hil
                    generalize L.getD i 0 = x at *
                    obtain ⟨D, hown, hD, hnd, hm, hat⟩ := hS
                    obtain ⟨cv, hrun, hcv, hwc⟩ := hown.lookup_int law3 Tryz.underlying75 Tryz.underlying3 (zeroInt _) (keyOf_int_mk Tryz.underlying3 hwf)
                    by_cases hin : x ∈ V ++ L.take i
                    · have hc1 : cv = 1 := by
                        rw [hat x hin] at hcv
                        simpa using hcv.symm
                      subst hc1
                      have hinV : Hid (x ∈ V) := hid ((List.mem_append.1 hin).resolve_right hnotin.out)
                      have bel := hid (hb7.out.grown hgr (Nat.le_of_lt hsz7) (fun k hk => by cases hk; exact Nat.le_refl _))
                      clear hown hD hnd hm hat hcv hin hgr
                      go_wp2_with fail
                      go_ret
                      exact ⟨retE_no 7 (by omega) (taken_twice hTo.out hx.out ((hmL'.out x).1 hmem.out) hinV.out), Below.tr b1.out bel.out⟩
                    · have hc0 : cv = 0 := by
                        have h1 : has D (.int .i64 x) = false := by
                          cases h2 : has D (.int .i64 x)
                          · rfl
                          · exact absurd ((hm x).2 h2) hin
                        rw [atKey_of_not_has h1] at hcv
                        simpa using hcv.symm
                      subst hc0
                      have hlen : (V ++ L.take i).length ≤ n := pigeon n _ hnd (fun y hy => by
                        rcases List.mem_append.1 hy with hy | hy
                        · obtain ⟨u, hu, hc⟩ := (hTo.out.taken y).1 hy
                          have := hc.there hR.out (hTo.out.tens u hu).rootsOk
                          exact ⟨this.1, this.2.1⟩
                        · have := ((hmL'.out y).1 (List.mem_of_mem_take hy)).there hR.out hOk.out.rootsOk
                          exact ⟨this.1, this.2.1⟩)
                      have hput := hid (seen_put hD hnd hin hm hat)
                      have hinV : Hid (x ∉ V) := hid (fun h => hin (List.mem_append_left _ h))
                      replace hcv := hid hcv
                      have hgr' := hid hgr
                      clear hnd hm hat hD hin hgr
                      generalize hVl : (V ++ L.take i).length = vl at *
                      replace hVl := hid hVl
                      go_wp2_with (at_mapUpdate; refine wpList_mapUpdate_own _ rfl _ _ _ 75 rfl 3 3 law3 Tryz.underlying75 _ w1.heap.size vl _ rfl hown (by unfold maxLen; omega) _ _ _ rfl rfl (keyOf_int_mk Tryz.underlying3 hwf) _ [] (plainElem_int Tryz.underlying3 (WalkArith.wf_i64 (by omega))) ?_; intro w8 hown8 hgrow8)
                      have hS8 : Hid (Seen w8 w1.heap.size (V ++ L.take (i + 1))) := hid (by
                        have e8 : V ++ L.take (i + 1) = (V ++ L.take i) ++ [x] := by rw [htk.out, List.append_assoc]
                        rw [e8]
                        exact ⟨_, by rw [List.length_append, hVl.out]; exact hown8, hput.out.1, hput.out.2.1, hput.out.2.2.1, hput.out.2.2.2⟩)
                      have hgr8 : Hid (w7.grownBy w8 (some w1.heap.size)) := hid (hgr'.out.trans hgrow8)
                      have hno8 : Hid (∀ y ∈ L.take (i + 1), y ∉ V) := hid (fun y hy => by
                        rw [htk.out] at hy
                        rcases List.mem_append.1 hy with hy | hy
                        · exact hno.out y hy
                        · rw [List.mem_singleton.1 hy]; exact hinV.out)
                      clear hown8 hgrow8 hput hown hrun hcv hwc hck hVl
                      go_wp2_with fail
                      go_roundw
                      case rel => exact ⟨i + 1, by omega, by go_num, hgr8.out, hS8.out, hno8.out⟩
                      case measure => simp [Go.RowKit.intOf]; omega
                  · obtain rfl : i = ln := by omega
                    have eL : L.take i = L := List.take_of_length_le (by rw [hlnL.out]; exact Nat.le_refl _)
                    have bel := hid (hb7.out.grown hgr (Nat.le_of_lt hsz7) (fun k hk => by cases hk; exact Nat.le_refl _))
                    have hszF := Nat.lt_of_lt_of_le hsz7 hgr.size
                    have hNext : Hid (Seen wr w1.heap.size (V ++ L) ∧ TensTo n B l (j + 1) (V ++ L)) := hid (by
                      rw [eL] at hS
                      refine ⟨hS, hTo.out.next hx.out hOk.out ?_ hri'.out hmL'.out (by rw [hlnL.out]; omega) (by have := hno.out; rwa [eL] at this)⟩
                      have h1 := hsumN.out
                      have h2 := hrm.out
                      omega)
                    have hvN : Hid ((rm - t.quota : Int) = (n : Int) - 90 - sumQ (l.take (j + 1))) := hid (by rw [hsumN.out, ← hrm.out]; omega)
                    clear hS hgr eL
                    go_wp2_with fail
                    go_roundw
                    case rel => exact ⟨j + 1, V ++ L, by omega, by go_num, by rw [hvN.out], bel.out, hszF, hNext.out.1, hNext.out.2⟩
                    case measure => simp [Go.RowKit.intOf]; omega
          · have h5' : (e2 == 0) = false := by simp [h5]
            go_wp2_with fail
            go_ret
            exact ⟨retE_no e2 h5 (fun f => h5 (he2.out.2 (f.tens t (List.mem_of_getElem? hx.out)))), Below.tr b1.out hb6.out⟩
        · obtain rfl : j = tn := by omega
          have e1 : l.take j = l := List.take_of_length_le (by rw [htl.out]; exact Nat.le_refl _)
          rw [e1] at hsq0 hsq1
          have hAll : Hid (TensTo n B l j V) := hid hTo
          have hokl : Hid (∀ t ∈ l, TenOk n B t) := hid (by have := hTo.tens; rwa [e1] at this)
          replace hb := hid hb
          clear hTo hS
          go_wp2_with fail
          refine (poolHeld_any Q a n c B ta j tc l wr (h.out.store.below hb.out) (h.out.tens.below hb.out) hR.out (by rw [htl.out]; exact htn) hokl.out).mono ?_
          rintro e w2 ⟨⟨e2, rfl, he2⟩, b2⟩
          replace he2 := hid he2
          have hb2 := hid (Below.tr b1.out (Below.tr hb.out b2))
          clear p0r p1r b2
          go_wp2_with fail
          go_ret
          refine ⟨⟨e2, rfl, fun f => ⟨hR.out, by rw [htl.out]; exact htn, hokl.out, fun hp => ?_, ?_, ?_, he2.out.1 f⟩, fun f => he2.out.2 f.held⟩, hb2.out⟩
          · have := hAll.out.room (by rw [← htl.out]; exact hp); rwa [e1] at this
          · have := hAll.out.uses; rwa [e1] at this
          · have := hAll.out.apart; rwa [e1] at this
  · have h0' : (e' == 0) = false := by simp [h0]
    go_wp2_with fail
    go_ret
    exact ⟨retE_no e' h0 (fun f => h0 (he.out.2 f.right)), Below.tr b0 b1⟩
end Go.Proofs.YtihkljfcplfldaaGreat

namespace Go.Proofs.YtihkljfcplfldaaGreat
open Go.RowKit

/-- a number in two bytes; numbers; bytes -/
def numB (x : Int) : List Int := [(x / 256) % 256, x % 256]
def numsB (l : List Int) : List Int := l.flatMap numB
def bytesB (b : List Int) : List Int := numB (b.length : Int) ++ b
theorem numB_len (x : Int) : (numB x).length = 2 := rfl
theorem numsB_len : ∀ l : List Int, (numsB l).length = 2 * l.length
  | [] => rfl
  | x :: l => by
    have := numsB_len l
    simp only [numsB, List.flatMap_cons, List.length_append, numB_len, List.length_cons] at *
    omega
theorem bytesB_len (b : List Int) : (bytesB b).length = 2 + b.length := by simp [bytesB, numB_len]
def Byt (l : List Int) : Prop := ∀ x ∈ l, 0 ≤ x ∧ x < 256
theorem byt_numB (x : Int) : Byt (numB x) := fun y hy => by
  simp only [numB, List.mem_cons, List.not_mem_nil, or_false] at hy
  rcases hy with rfl | rfl <;> omega
theorem Byt.append {l m : List Int} (h : Byt l) (k : Byt m) : Byt (l ++ m) := fun x hx => by
  rcases List.mem_append.1 hx with h1 | h1
  · exact h x h1
  · exact k x h1
theorem byt_numsB (l : List Int) : Byt (numsB l) := fun x hx => by
  obtain ⟨y, _, hy⟩ := List.mem_flatMap.1 hx
  exact byt_numB y x hy
theorem numsB_append (l m : List Int) : numsB (l ++ m) = numsB l ++ numsB m := List.flatMap_append
theorem numsB_one (x : Int) : numsB [x] = numB x := by simp [numsB]

/-- the writer, in block wb, has written L; v is the row of it, in memory of one's own from base on -/
structure Wr (base : Nat) (w : World) (wb : Nat) (v : Value) (L : List Int) : Prop where
  box : CellsAt w wb #[v] 134
  row : w.ownsRow base 5 1 v L.length (L.map (Value.int .u8))
  ne : v.ownBlock ≠ some wb
  ge : base ≤ wb
  byt : Byt L
/-- what the writer may change -/
def WM (wb : Nat) (v : Value) (k : Nat) : Prop := k = wb ∨ v.ownBlock = some k
structure WrN (w w' : World) (wb : Nat) (v v' : Value) : Prop where
  only : Only (WM wb v) w w'
  new : ∀ k, v'.ownBlock = some k → v.ownBlock = some k ∨ w.heap.size ≤ k
theorem wrN_refl (w : World) (wb : Nat) (v : Value) : WrN w w wb v v := ⟨Only.refl _ _, fun _ h => .inl h⟩
theorem wrN_below {w w' : World} {wb : Nat} {v : Value} (h : Below w.heap.size w w') : WrN w w' wb v v := ⟨Only.of_below h, fun _ h => .inl h⟩
theorem WrN.trans {w w1 w2 : World} {wb : Nat} {v v1 v2 : Value} (h : WrN w w1 wb v v1) (k : WrN w1 w2 wb v1 v2) : WrN w w2 wb v v2 := by
  refine ⟨⟨k.only.os.trans h.only.os, k.only.tape.trans h.only.tape, k.only.output.trans h.only.output, Nat.le_trans h.only.size k.only.size, fun i hi hm => ?_⟩, fun i hi => ?_⟩
  · refine (k.only.block i (Nat.lt_of_lt_of_le hi h.only.size) ?_).trans (h.only.block i hi hm)
    rintro (e | e)
    · exact hm (.inl e)
    · rcases h.new i e with e | e
      · exact hm (.inr e)
      · omega
  · rcases k.new i hi with e | e
    · exact h.new i e
    · exact .inr (Nat.le_trans h.only.size e)
theorem Wr.below {base : Nat} {w w' : World} {wb : Nat} {v : Value} {L : List Int} (h : Wr base w wb v L) (b : Below w.heap.size w w') : Wr base w' wb v L := ⟨h.box.below b, row_below h.row b, h.ne, h.ge, h.byt⟩
theorem Wr.val {base : Nat} {w : World} {wb : Nat} {v : Value} {L : List Int} (h : Wr base w wb v L) : ∃ a m c, v = .slice a m c ∧ m = L.length := by
  rcases h.row.2 with ⟨hv, h0⟩ | ⟨g, cap, cur, hv, _⟩
  · exact ⟨none, 0, 0, hv, h0.symm⟩
  · exact ⟨_, _, _, hv, rfl⟩
theorem WrN.keep {base : Nat} {w w' : World} {wb : Nat} {v v' : Value} {L : List Int} (h : Wr base w wb v L) (k : WrN w w' wb v v') (hs : base ≤ w.heap.size) : Below base w w' :=
  k.only.below (fun i hi => by
    rcases hi with rfl | hi
    · exact h.ge
    · exact (h.row.lt i hi).1) hs
/-- a block that is none of the writer's stays -/
theorem WrN.cells {w w' : World} {wb : Nat} {v v' : Value} (k : WrN w w' wb v v') {g : Nat} {cs : Array Value} {t : TypeId} (h : CellsAt w g cs t) (hg : ¬ WM wb v g) : CellsAt w' g cs t := k.only.cells h hg
/-- what a write answers -/
def RetWr (base : Nat) (w : World) (wb : Nat) (v : Value) (L D : List Int) (e : Ending) (w' : World) : Prop := e = .returned (.tuple #[]) ∧ ∃ v', Wr base w' wb v' (L ++ D) ∧ WrN w w' wb v v'

/-- an append of a slice that is nil, whatever its capacity -/
theorem run_append_nothing {w : World} (base : Nat) (t ty e : TypeId) (i : TypeInfo) (size c : Nat) (ht : Tryz.prog.underlying t = some (.slice e)) (hi : Tryz.prog.info? e = some i)
    (v : Value) (n : Nat) (xs : List Value) (hown : w.ownsRow base e size v n xs) :
    (Builtin.append_ #[t, t] ty #[v, .slice none 0 c]).run Tryz.prog w = .ok v w := by
  rcases hown.2 with ⟨rfl, rfl⟩ | ⟨g, cap, cur, rfl, _, _, hnc, _⟩
  · simp [Builtin.append_, run_underlying ht, sizeOf, typeInfo, hi, Builtin.lenOf, Builtin.firstCells]
  · simp [Builtin.append_, run_underlying ht, sizeOf, typeInfo, hi, Builtin.lenOf, Builtin.firstCells, hnc, storeCells]
/-- an append of bytes to the writer's row -/
theorem run_append_u8 (w : World) (base : Nat) (ty : TypeId) (v : Value) (k : Nat) (xs : List Value) (hv : w.ownsRow base 5 1 v k xs) (xa : Option Addr) (m c : Nat) (ys : List Int) (hN : NumsAt (fun _ => True) .u8 w xa m ys)
    (hbase : base ≤ w.heap.size) (hk : k ≤ 1000000) (hm : m ≤ 1000000) :
    ∃ v' w', (Builtin.append_ #[28, 28] ty #[v, .slice xa m c]).run Tryz.prog w = .ok v' w' ∧ w'.ownsRow base 5 1 v' (k + m) (xs ++ ys.map (Value.int .u8)) ∧ w.grownBy w' v.ownBlock ∧ (v'.ownBlock = v.ownBlock ∨ v'.ownBlock = some w.heap.size) := by
  obtain ⟨i0, hi, hz0, hz1, hz2⟩ := info_parts Tryz.infoByte
  cases xa with
  | none =>
    obtain rfl : m = 0 := by
      rcases Nat.eq_zero_or_pos m with h | h
      · exact h
      · obtain ⟨_, _, e, _⟩ := hN.2.2 h; cases e
    obtain rfl : ys = [] := List.eq_nil_of_length_eq_zero hN.1
    exact ⟨v, w, run_append_nothing (w := w) base 28 ty 5 i0 1 c Tryz.underlying28 hi v k xs hv, by simpa using hv, ⟨rfl, rfl, rfl, Nat.le_refl _, fun _ _ _ => rfl⟩, .inl rfl⟩
  | some a =>
    have hl : (ys.map (Value.int .u8)).length = m * 1 := by simp [hN.1]
    have hnews : ∀ j u, (ys.map (Value.int .u8))[j]? = some u → w.cell? (a.add j) = some u := by
      intro j u hj
      obtain ⟨hj1, hj2⟩ := List.getElem?_eq_some_iff.1 hj
      have hjm : j < m := by simpa [hN.1] using hj1
      obtain ⟨b, off, ha, _, _, hc⟩ := hN.2.2 (by omega)
      cases ha
      have := hc j hjm
      have hjy : j < ys.length := by rw [hN.1]; exact hjm
      rw [show ((⟨b, off, none⟩ : Addr).add j) = ⟨b, off + j, none⟩ by simp [Addr.add], this, ← hj2]
      simp [List.getD, hjy]
    have h1 : ∀ u ∈ ys.map (Value.int .u8), u.oneCell' = true := by
      intro u hu
      obtain ⟨y, _, rfl⟩ := List.mem_map.1 hu
      rfl
    obtain ⟨v', w', hr, ho, hg, hn, hat⟩ := run_append_own_at (P := Tryz.prog) w base 28 ty 5 i0 (.int .u8 0) 1 1 Tryz.underlying28 hi hz0 hz1 hz2 rfl (by decide) _ k xs hv a m c _ hl hnews h1 (by unfold maxLen; omega) (by omega) hbase
    exact ⟨v', w', hr, ho, hg, hat⟩

/-- behind an append and the store of its row into the writer -/
theorem Wr.put {base : Nat} {w w' : World} {wb : Nat} {v v' : Value} {L D : List Int} (h : Wr base w wb v L) (hr : w'.ownsRow base 5 1 v' (L.length + D.length) (L.map (Value.int .u8) ++ D.map (Value.int .u8))) (hg : w.grownBy w' v.ownBlock) (hat : v'.ownBlock = v.ownBlock ∨ v'.ownBlock = some w.heap.size) (hb : Byt D) :
    Wr base (w'.setCell ⟨wb, 0, none⟩ v') wb v' (L ++ D) ∧ WrN w (w'.setCell ⟨wb, 0, none⟩ v') wb v v' := by
  have hon : Only (WM wb v) w w' := ⟨hg.os, hg.tape, hg.output, hg.size, fun k hk hm => hg.block k hk (fun e => hm (.inr e.symm))⟩
  have hbox : CellsAt w' wb #[v] 134 := by
    unfold CellsAt
    rw [hg.block wb h.box.lt (fun e => h.ne e.symm)]
    exact h.box
  have hk : Kept wb w' (w'.setCell ⟨wb, 0, none⟩ v') := Kept.setCell (g := wb) (Kept.refl _ _) (p := ⟨wb, 0, none⟩) rfl _
  have hnew : ∀ k, v'.ownBlock = some k → v.ownBlock = some k ∨ w.heap.size ≤ k := fun k hk => by
    rcases hat with e | e
    · exact .inl (by rw [← e]; exact hk)
    · rw [e] at hk; cases hk; exact .inr (Nat.le_refl _)
  have hne : v'.ownBlock ≠ some wb := fun e => by
    rcases hnew wb e with h1 | h1
    · exact h.ne h1
    · have := h.box.lt; omega
  refine ⟨⟨?_, ?_, hne, h.ge, h.byt.append hb⟩, ⟨hon.trans (Only.of_kept hk (.inl rfl)), hnew⟩⟩
  · have := hbox.set 0 v'
    simpa using this
  · rw [List.length_append, List.map_append]
    exact (Only.of_kept (M := fun k => k = wb) hk rfl).row hr (fun k hk' e => hne (e ▸ hk'))

theorem Wr.boxed {base : Nat} {w w' : World} {wb : Nat} {v : Value} {L : List Int} (h : Wr base w wb v L) (hg : w.grownBy w' v.ownBlock) : CellsAt w' wb #[v] 134 := by
  unfold CellsAt
  rw [hg.block wb h.box.lt (fun e => h.ne e.symm)]
  exact h.box
theorem nums_two (w : World) (x y : Int) (hx : 0 ≤ x ∧ x < 256) (hy : 0 ≤ y ∧ y < 256) : NumsAt (fun _ => True) .u8 (w.alloc (.cells #[.int .u8 x, .int .u8 y] 5)) (some ⟨w.heap.size, 0, none⟩) 2 [x, y] := by
  have k := cellsAt_alloc w #[.int .u8 x, .int .u8 y] 5
  refine ⟨rfl, fun z hz => ?_, fun _ => ⟨_, _, rfl, k.lt, trivial, fun i hi => ?_⟩⟩
  · simp only [List.mem_cons, List.not_mem_nil, or_false] at hz
    rcases hz with rfl | rfl
    · exact wf_u8 hx
    · exact wf_u8 hy
  · rcases (by omega : i = 0 ∨ i = 1) with rfl | rfl
    · exact k.cell 0
    · exact k.cell 1

set_option maxHeartbeats 1000000 in
set_option maxRecDepth 100000 in
theorem numbers_any (base wb : Nat) (v : Value) (L : List Int) (na : Option Addr) (nn nc : Nat) (l : List Int) (w : World) (hW : Wr base w wb v L) (hN : NumsAt (fun b => ¬ WM wb v b) .i64 w na nn l) (hlen : L.length + 2 * nn ≤ 900000) :
    Calls Tryz.prog 91 #[.pointer (some ⟨wb, 0, none⟩), .slice na nn nc] w fun e w' => RetWr base w wb v L (numsB l) e w' := by
  have hll := hid hN.1
  replace hW := hid hW
  replace hN := hid hN
  go_enter Tryz.func91, Tryz.ntmps91
  go_wp2_with fail
  go_loopw [8] (fun u wr => ∃ (j : Nat) (v' : Value), j ≤ nn ∧ u = .int .i64 j ∧ Wr base wr wb v' (L ++ numsB (l.take j)) ∧ WrN w wr wb v v') (fun u _ => nn - (Go.RowKit.intOf u).toNat)
  case atStart => exact ⟨0, v, Nat.zero_le _, rfl, by simpa [numsB] using hW.out, wrN_refl _ _ _⟩
  case round =>
    clear hW
    obtain ⟨j, v', hj, rfl, hW, hO⟩ := hrel
    by_cases hlt : j < nn
    · have hjl : j < l.length := by rw [hll.out]; exact hlt
      obtain ⟨kb, ko, rfl, hkb, hkq, hcc⟩ := hN.out.2.2 (by omega)
      have hck := (hO.only.cell (p := ⟨kb, ko + j, none⟩) hkb hkq).trans (hcc j hlt)
      have hx : l[j]? = some (l.getD j 0) := by rw [List.getElem?_eq_getElem hjl]; simp [List.getD, hjl]
      have hwf := hN.out.2.1 _ (List.mem_of_getElem? hx)
      obtain ⟨va, vm, vc, rfl, hvm⟩ := hW.val
      have hvm' : vm ≤ 900000 := by rw [hvm, List.length_append, numsB_len, List.length_take]; omega
      have hw0 := hW.box.cell 0
      have hwz := hW.box.frozen 0
      simp at hw0
      have hnext : Hid (numsB (l.take (j + 1)) = numsB (l.take j) ++ numB (l.getD j 0)) := hid (by rw [take_next hx, numsB_append, numsB_one])
      clear hcc hx hjl
      generalize l.getD j 0 = x at *
      have hA := nums_two wr (x / 256 % 256) (x % 256) (by omega) (by omega)
      have bA := below_alloc wr (.cells #[.int .u8 (x / 256 % 256), .int .u8 (x % 256)] 5)
      have hWA := hW.below bA
      have hbs := Nat.le_trans hW.ge (Nat.le_of_lt hWA.box.lt)
      obtain ⟨v2, w2, hrun, hrow2, hg2, hat2⟩ := run_append_u8 _ base 28 (.slice va vm vc) _ _ hWA.row (some ⟨wr.heap.size, 0, none⟩) 2 2 (numB x) hA hbs (by omega) (by omega)
      have hb2 := hWA.boxed hg2
      have hb0 := hb2.cell 0
      have hbz := hb2.frozen 0
      simp at hb0
      have hput := hid (hWA.put (D := numB x) hrow2 hg2 hat2 (byt_numB x))
      obtain ⟨a2, m2, c2, rfl, hm2⟩ := hput.out.1.val
      clear hm2
      have hO2 := hid (hO.trans ((wrN_below bA).trans hput.out.2))
      have hW2 : Hid (Wr base (w2.setCell ⟨wb, 0, none⟩ (.slice a2 m2 c2)) wb (.slice a2 m2 c2) (L ++ numsB (l.take (j + 1)))) := hid (by rw [hnext.out, ← List.append_assoc]; exact hput.out.1)
      clear hput hrow2 hg2 hat2 hb2 hWA hA bA hvm hW hO hnext hbs
      go_wp2_with (at_builtin; refine Lib.wpList_append_run _ rfl _ _ _ _ rfl _ _ rfl rfl _ _ hrun ?_)
      go_roundw
      case rel => exact ⟨j + 1, _, by omega, by go_num, hW2.out, hO2.out⟩
      case measure => simp [Go.RowKit.intOf]; omega
    · obtain rfl : j = nn := by omega
      have e1 : l.take j = l := List.take_of_length_le (by rw [hll.out]; exact Nat.le_refl _)
      rw [e1] at hW
      replace hW := hid hW
      replace hO := hid hO
      go_wp2_with fail
      go_end0
      exact ⟨rfl, v', hW.out, hO.out⟩
end Go.Proofs.YtihkljfcplfldaaGreat
