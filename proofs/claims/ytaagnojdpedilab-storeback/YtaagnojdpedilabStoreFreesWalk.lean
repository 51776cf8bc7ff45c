/-
  The walk of the law StoreFrees out of contracts. Nothing here is trusted.
-/
import Derived.Test.YtaagnojdpedilabStored
set_option linter.unusedVariables false
namespace Go.Proofs.Ytaagnojdpedilab
open Go.RowKit

/-- the addresses, rising, of those of the first places of which p holds -/
def heldL (p : Nat → Bool) : Nat → List Int
  | 0 => []
  | i + 1 => heldL p i ++ (if p i then [(i : Int) + 1] else [])
theorem heldL_length (p : Nat → Bool) : ∀ i, (heldL p i).length ≤ i
  | 0 => by simp [heldL]
  | i + 1 => by
    have := heldL_length p i
    unfold heldL
    split <;> simp <;> omega
theorem mem_heldL (p : Nat → Bool) (x : Int) : ∀ i, x ∈ heldL p i ↔ ∃ k, k < i ∧ p k = true ∧ x = (k : Int) + 1
  | 0 => by simp [heldL]
  | i + 1 => by
    unfold heldL
    rw [List.mem_append, mem_heldL p x i]
    constructor
    · rintro (⟨k, hk, h⟩ | h)
      · exact ⟨k, by omega, h⟩
      · by_cases hp : p i = true
        · rw [if_pos hp] at h
          exact ⟨i, by omega, hp, by simpa using h⟩
        · rw [if_neg hp] at h
          cases h
    · rintro ⟨k, hk, hp, h⟩
      by_cases e : k = i
      · subst e
        right
        rw [if_pos hp]
        simpa using h
      · exact .inl ⟨k, by omega, hp, h⟩
theorem heldL_wf (p : Nat → Bool) (i : Nat) (hi : i ≤ 400) : ∀ x ∈ heldL p i, (Lit.int .i64 x).wf = true := by
  intro x hx
  obtain ⟨k, hk, _, rfl⟩ := (mem_heldL p x i).1 hx
  exact WalkArith.wf_i64 (by omega)

set_option maxHeartbeats 4000000 in
set_option maxRecDepth 100000 in
theorem storeFrees_walk (a : Option Addr) (n c : Nat) (B : Nat → Blk) (oa : Option Addr) (on oc : Nat) (os : List Int) (w : World) (h : StoreAt w a n B) (ho : NumsAt (fun _ => True) .i64 w oa on os) :
    Calls Try.prog 4 #[.agg #[.slice a n c], .slice oa on oc] w fun e w' => e = .returned (.bool true) ∧ Below w.heap.size w w' := by
  obtain ⟨i0, hi, hz0, hz1, hz2⟩ := info_parts Try.infoInt
  have b0 := below_alloc w (.cells #[.slice a n c] 24)
  have k0 := cellsAt_alloc w #[.slice a n c] 24
  replace k0 := hid k0
  replace h := hid h
  replace ho := hid ho
  go_enter Try.func4, Try.ntmps4
  go_wp2_with fail
  generalize w.alloc (.cells #[.slice a n c] 24) = w0 at *
  refine (stored_any w0).mono ?_
  rintro e w1 ⟨rfl, b1⟩
  replace k0 := k0.out.below b1
  replace b1 := Below.tr b0 b1
  have m0 := k0.cell 0
  simp at m0
  replace k0 := hid k0
  clear b0
  go_wp2_with fail
  refine (storeCheck_any a n c B w1 (h.out.below b1)).mono ?_
  rintro e w2 ⟨⟨e', rfl, he⟩, b2⟩
  replace k0 := k0.out.below b2
  replace b2 := Below.tr b1 b2
  replace he := hid he
  clear b1 m0
  by_cases h0 : e' = 0
  · have h0' : (e' == 0) = true := by simp [h0]
    have hR := he.out.1 h0
    have hn := hR.small
    have hS2 := h.out.below b2
    have hq := k0.lt
    replace hR := hid hR
    replace hS2 := hid hS2
    replace k0 := hid k0
    go_wp2_with fail
    go_loopw [5] (fun v wr => ∃ k : Nat, k ≤ 3001 ∧ v = .int .i64 k ∧ ∃ sa sc C, CellsAt wr w.heap.size #[.slice sa n sc] 24 ∧ StoreAt wr sa n C ∧ Right n C ∧ Below w.heap.size w wr) (fun v _ => 3002 - (Go.RowKit.intOf v).toNat)
    case atStart => exact ⟨0, by omega, rfl, a, c, B, k0.out, hS2.out, hR.out, b2⟩
    case round =>
      clear hR hS2 k0 b2 hq he h0 h0' h
      obtain ⟨k, hk, rfl, sa, sc, C, kq, hS, hR, b⟩ := hrel
      have m0 := kq.cell 0
      simp at m0
      replace kq := hid kq
      replace hR := hid hR
      go_wp2_with fail
      refine (storeOutside_any sa n sc C wr hS).mono ?_
      rintro e w3 ⟨b3, ⟨e', _, _, hno⟩ | ⟨_, g3, rfl, hrow⟩⟩
      · exact absurd hR.out hno
      replace kq := hid (kq.out.below b3)
      replace hS := hS.below b3
      have hsz3 := b3.size
      replace b3 := Below.tr b b3
      replace hrow := hid hrow
      replace hS := hid hS
      clear b m0
      go_wp2_with fail
      go_loopw [8, 34] (fun v u wi => ∃ i : Nat, i ≤ n ∧ u = .int .i64 i ∧ wi.ownsRow w3.heap.size 3 1 v (heldL (fun k => decide (0 < outs n C k)) i).length ((heldL (fun k => decide (0 < outs n C k)) i).map (Value.int .i64)) ∧ Below w3.heap.size w3 wi) (fun _ u _ => n - (Go.RowKit.intOf u).toNat)
      case atStart => exact ⟨0, Nat.zero_le _, rfl, World.ownsRow_nil _ _ _ _, Below.refl _ _⟩
      case round =>
        obtain ⟨i, hin, rfl, hown, hbel⟩ := hrel
        by_cases hlt : i < n
        · have hrc : wr.cell? ⟨g3, i, none⟩ = some (.int .i64 (outs n C i)) := (hbel.cell (p := ⟨g3, i, none⟩) hrow.out.lt.2).trans (hrow.out.cell hlt)
          have hsz := hbel.size
          have hs : Hid (heldL (fun k => decide (0 < outs n C k)) (i + 1) = heldL (fun k => decide (0 < outs n C k)) i ++ (if 0 < outs n C i then [(i : Int) + 1] else [])) := hid (by
            show heldL _ i ++ (if (decide (0 < outs n C i)) = true then [(i : Int) + 1] else []) = _
            simp)
          have hln := heldL_length (fun k => decide (0 < outs n C k)) i
          have hln2 := heldL_length (fun k => decide (0 < outs n C k)) (i + 1)
          generalize outs n C i = oi at *
          by_cases hpos : 0 < oi
          · rw [if_pos hpos] at hs
            generalize hL : heldL (fun k => decide (0 < outs n C k)) i = L at *
            generalize hL2 : heldL (fun k => decide (0 < outs n C k)) (i + 1) = L2 at *
            replace hL := hid hL
            replace hL2 := hid hL2
            go_wp2_with (at_builtin; refine wpList_append_own _ rfl _ _ 25 rfl w3.heap.size 3 i0 (.int .i64 0) 1 8 Try.underlying25 hi hz0 hz1 hz2 rfl (by decide) _ _ _ rfl (hown.alloc _) ⟨wr.heap.size, 0, none⟩ 1 1 [.int .i64 ((i : Int) + 1)] rfl rfl ?c1 ?c2 ?c3 ?c4 ?c5 ?_)
            case c1 =>
              intro j u hj
              match j, hj with
              | 0, hj => simp at hj; subst hj; simp [Addr.add]
            case c2 => intro u hu; simp at hu; subst hu; rfl
            case c3 => unfold maxLen; omega
            case c4 => omega
            case c5 => simp; omega
            intro v' w4 hown' hgrow _
            have hbel' := (hbel.alloc (by omega) _).grown hgrow (by simp; omega) (by
              intro k' hk'
              exact (hown.lt k' hk').1)
            have hown2 : w4.ownsRow w3.heap.size 3 1 v' L2.length (L2.map (Value.int .i64)) := by
              rw [hs.out, List.map_append, List.length_append]; exact hown'
            clear hown hown' hgrow hs hbel
            go_wp2_with fail
            go_roundw
            case rel => exact ⟨i + 1, by omega, by go_num, by rw [hL2.out]; exact hown2, hbel'⟩
            case measure => simp [Go.RowKit.intOf]; omega
          · rw [if_neg hpos, List.append_nil] at hs
            replace hown := hid hown
            go_wp2_with fail
            go_roundw
            case rel => exact ⟨i + 1, by omega, by go_num, by rw [hs.out]; exact hown.out, hbel⟩
            case measure => simp [Go.RowKit.intOf]; omega
        · obtain rfl : i = n := by omega
          obtain ⟨ha, hc, rfl, hnc, hN⟩ := numsAt_own (heldL_wf _ i hn) hown
          have hxs := hid (fun x => mem_heldL (fun k => decide (0 < outs i C k)) x i)
          have hln := heldL_length (fun k => decide (0 < outs i C k)) i
          have kqi := kq.out.below hbel
          have hSi := hS.out.below hbel
          have bw := Below.tr b3 hbel
          have m1 := kqi.cell 0
          simp at m1
          generalize heldL (fun k => decide (0 < outs i C k)) i = xs at *
          generalize hm : xs.length = m at *
          replace hm := hid hm
          replace kqi := hid kqi
          replace hSi := hid hSi
          replace hN := hid hN
          clear hown hbel kq hS b3 hrow
          generalize hwi : wr = wi at *
          clear hwi
          by_cases hm0 : m = 0
          · have hm0' : ((m : Int) == 0) = true := by simp [hm0]
            have hu : usedTo C i = 0 := used_none (none_there hR.out (fun k hk => by
              have hx : xs = [] := List.eq_nil_of_length_eq_zero (by rw [hm.out]; exact hm0)
              have := (hxs.out ((k : Int) + 1))
              rw [hx] at this
              show outs i C k ≤ 0
              rcases Int.lt_or_le 0 (outs i C k) with h | h
              · exact absurd (this.2 ⟨k, hk, by simpa using h, rfl⟩) (by simp)
              · exact h))
            replace hu := hid hu
            go_wp2_with fail
            refine (storeUsed_any sa i sc C wi hSi.out).mono ?_
            rintro e w5 ⟨b5, ⟨e', _, _, hno⟩ | ⟨_, rfl⟩⟩
            · exact absurd hR.out hno
            rw [hu.out]
            go_wp2_with fail
            go_ret
            exact ⟨rfl, Below.tr bw b5⟩
          · have hm0' : ((m : Int) == 0) = false := by simp; omega
            by_cases hon0 : on = 0
            · have hon0' : ¬ (0 : Int) < (on : Int) := by omega
              clear hon0
              have hr : 0 < m := by omega
              obtain ⟨hb0, ho0, rfl, hhb, _, hhc⟩ := hN.out.2.2 (by omega)
              have hrc : wi.cell? ⟨hb0, ho0 + 0, none⟩ = some (.int .i64 (xs.getD 0 0)) := hhc 0 hr
              have hmem : xs.getD 0 0 ∈ xs := hN.out.getD hr
              obtain ⟨j, hj, hpj, hja⟩ := (hxs.out _).1 hmem
              have hdrop := droppable_of hR.out hj (by simpa using hpj)
              rw [hja] at hrc
              rw [Nat.add_zero] at hrc
              replace hdrop := hid hdrop
              clear hmem hpj hja hhc
              by_cases hk3 : 3000 < k
              · have hk3' : (3000 : Int) < (k : Int) := by omega
                go_wp2_with fail
                go_ret
                exact ⟨rfl, bw⟩
              · have hk3' : ¬ (3000 : Int) < (k : Int) := by omega
                go_wp2_with fail
                refine (storeDrop_any sa i sc C ((j : Int) + 1) wi hSi.out).mono ?_
                rintro e w5 ⟨⟨e', _, _, hno⟩ | ⟨_, D, ⟨g5, c5, rfl, hg5, hgl5, hB5⟩, hRD, _⟩, b5⟩
                · exact absurd hdrop.out hno
                have hqi := kqi.out.lt
                have k5 := kqi.out.below b5
                have n0 := k5.cell 0
                have n1 := k5.frozen 0
                simp at n0
                replace b5 := Below.tr bw b5
                replace hB5 := hid hB5
                replace k5 := hid k5
                replace hRD := hid hRD
                clear m1
                go_wp2_with fail
                clear n0 n1
                obtain ⟨k6, hS6⟩ := cur_set (v := .slice (some ⟨g5, 0, none⟩) i c5) k5.out hqi hg5 hgl5 hB5.out
                have b6 := b5.setCell (p := ⟨w.heap.size, 0, none⟩) (Nat.le_refl _) (.slice (some ⟨g5, 0, none⟩) i c5)
                go_roundw
                case rel => exact ⟨k + 1, by omega, by go_num, _, _, D, k6, hS6, hRD.out, b6⟩
                case measure => simp [Go.RowKit.intOf]; omega
            · have hon0' : (0 : Int) < (on : Int) := by omega
              obtain ⟨ob, oo, rfl, hob, _, hoc⟩ := ho.out.2.2 (by omega)
              have hot : Int.tmod (k : Int) (on : Int) = ((k % on : Nat) : Int) := by rw [Int.tmod_eq_emod_of_nonneg (by omega)]; rfl
              have hmod := Nat.mod_lt k (show 0 < on by omega)
              have hocc : wi.cell? ⟨ob, oo + k % on, none⟩ = some (.int .i64 (os.getD (k % on) 0)) := (bw.cell (p := ⟨ob, oo + k % on, none⟩) hob).trans (hoc (k % on) hmod)
              have honz : ((on : Int) == 0) = false := by simp; omega
              clear hoc
              generalize os.getD (k % on) 0 = ov at *
              generalize k % on = km at *
              go_wp2_with fail
              refine (at_any ov m wi (by omega) (by omega)).mono ?_
              rintro e w4 ⟨⟨r, rfl, hr⟩, rfl⟩
              replace hr : r < m := by omega
              obtain ⟨hb0, ho0, rfl, hhb, _, hhc⟩ := hN.out.2.2 (by omega)
              have hrc : w4.cell? ⟨hb0, ho0 + r, none⟩ = some (.int .i64 (xs.getD r 0)) := hhc r hr
              have hmem : xs.getD r 0 ∈ xs := hN.out.getD hr
              obtain ⟨j, hj, hpj, hja⟩ := (hxs.out _).1 hmem
              have hdrop := droppable_of hR.out hj (by simpa using hpj)
              rw [hja] at hrc
              replace hdrop := hid hdrop
              clear hmem hpj hja hhc
              by_cases hk3 : 3000 < k
              · have hk3' : (3000 : Int) < (k : Int) := by omega
                go_wp2_with fail
                go_ret
                exact ⟨rfl, bw⟩
              · have hk3' : ¬ (3000 : Int) < (k : Int) := by omega
                go_wp2_with fail
                refine (storeDrop_any sa i sc C ((j : Int) + 1) w4 hSi.out).mono ?_
                rintro e w5 ⟨⟨e', _, _, hno⟩ | ⟨_, D, ⟨g5, c5, rfl, hg5, hgl5, hB5⟩, hRD, _⟩, b5⟩
                · exact absurd hdrop.out hno
                have hqi := kqi.out.lt
                have k5 := kqi.out.below b5
                have n0 := k5.cell 0
                have n1 := k5.frozen 0
                simp at n0
                replace b5 := Below.tr bw b5
                replace hB5 := hid hB5
                replace k5 := hid k5
                replace hRD := hid hRD
                clear m1
                go_wp2_with fail
                clear n0 n1
                obtain ⟨k6, hS6⟩ := cur_set (v := .slice (some ⟨g5, 0, none⟩) i c5) k5.out hqi hg5 hgl5 hB5.out
                have b6 := b5.setCell (p := ⟨w.heap.size, 0, none⟩) (Nat.le_refl _) (.slice (some ⟨g5, 0, none⟩) i c5)
                go_roundw
                case rel => exact ⟨k + 1, by omega, by go_num, _, _, D, k6, hS6, hRD.out, b6⟩
                case measure => simp [Go.RowKit.intOf]; omega
  · have h0' : (e' == 0) = false := by simp [h0]
    go_wp2_with fail
    refine (stored_any w2).mono ?_
    rintro e w3 ⟨rfl, b3⟩
    go_wp2_with fail
    go_ret
    exact ⟨rfl, Below.tr b2 b3⟩

end Go.Proofs.Ytaagnojdpedilab
