/-
  The contract of the function within blocks.Reach that calls itself. Nothing here is trusted.
-/
import Derived.Test.YtaagnojdpedilabClo
set_option linter.unusedVariables false
namespace Go.Proofs.Ytaagnojdpedilab
open Go.RowKit Go.Maps

/-- what the closure finds, W having been the world ahead of the map -/
structure RE (W w : World) (mb wb sb : Nat) : Prop where
  bel : Below W.heap.size W w
  m : CellsAt w mb #[.map (some W.heap.size)] 106
  l : CellsAt w wb #[.func (.func 84) #[] #[.pointer (some ⟨mb, 0, none⟩), .pointer (some ⟨wb, 0, none⟩), .pointer (some ⟨sb, 0, none⟩)]] 107
  nm : mb ≠ W.heap.size
  nw : wb ≠ W.heap.size
theorem RE.grown {W w w' : World} {mb wb sb : Nat} (h : RE W w mb wb sb) (hg : w.grownBy w' (some W.heap.size)) : RE W w' mb wb sb := by
  refine ⟨h.bel.grown hg h.bel.size (fun k hk => by cases hk; exact Nat.le_refl _), ?_, ?_, h.nm, h.nw⟩
  · unfold CellsAt
    rw [hg.block mb h.m.lt (by simp; exact h.nm)]
    exact h.m
  · unfold CellsAt
    rw [hg.block wb h.l.lt (by simp; exact h.nw)]
    exact h.l
theorem RE.drew {W w : World} {mb wb sb : Nat} (h : RE W w mb wb sb) : RE W w.drew mb wb sb := ⟨h.bel.drew, h.m, h.l, h.nm, h.nw⟩

/-- what has been seen when some of l have been walked -/
structure Got (n : Nat) (B : Nat → Blk) (l l' : List Int) (V V' : List Int) : Prop where
  there : ∀ x ∈ V', There n B x
  sub : ∀ x ∈ V, x ∈ V'
  all : ∀ x ∈ l', x ≠ 0 → x ∈ V'
  clo : ∀ x ∈ V', x ∈ V ∨ Clo B l x
  shut : ∀ x ∈ V', x ∉ V → ∀ k ∈ (B (x - 1).toNat).kids, k ≠ 0 → k ∈ V'

theorem Got.start {n : Nat} {B : Nat → Blk} (l : List Int) {V : List Int} (h : ∀ x ∈ V, There n B x) : Got n B l [] V V := ⟨h, fun x hx => hx, by simp, fun x hx => .inl hx, fun x hx hn => absurd hx hn⟩
theorem Got.skip {n : Nat} {B : Nat → Blk} {l l' V V' : List Int} (h : Got n B l l' V V') {x : Int} (hx : x = 0 ∨ x ∈ V') : Got n B l (l' ++ [x]) V V' :=
  ⟨h.there, h.sub, fun y hy h0 => by
    rcases List.mem_append.1 hy with hy | hy
    · exact h.all y hy h0
    · simp at hy
      subst hy
      exact hx.resolve_left h0, h.clo, h.shut⟩
theorem Got.next {n : Nat} {B : Nat → Blk} {l l' V V' V'' : List Int} (h : Got n B l l' V V') {x : Int} (hx0 : x ≠ 0) (hxl : x ∈ l) (hxt : There n B x)
    (k : Got n B (B (x - 1).toNat).kids (B (x - 1).toNat).kids (V' ++ [x]) V'') : Got n B l (l' ++ [x]) V V'' := by
  have hxin : x ∈ V'' := k.sub x (by simp)
  refine ⟨k.there, fun y hy => k.sub y (by simp [h.sub y hy]), fun y hy h0 => ?_, fun y hy => ?_, fun y hy hn => ?_⟩
  · rcases List.mem_append.1 hy with hy | hy
    · exact k.sub y (by simp [h.all y hy h0])
    · simp at hy; subst hy; exact hxin
  · rcases k.clo y hy with h1 | h1
    · rcases List.mem_append.1 h1 with h2 | h2
      · exact h.clo y h2
      · simp at h2; subst h2; exact .inr (Clo.root hxl hx0)
    · exact .inr (h1.mono fun r hr h0 => (Clo.root hxl hx0).kid hr h0)
  · intro z hz h0
    by_cases e : y = x
    · subst e; exact k.all z hz h0
    · by_cases e2 : y ∈ V'
      · exact k.sub z (by simp [h.shut y e2 hn z hz h0])
      · exact k.shut y hy (by simp [e, e2]) z hz h0

/-- what the closure leaves -/
def Walked (W : World) (mb wb sb n : Nat) (B : Nat → Blk) (l V : List Int) (w' : World) : Prop := ∃ V', RE W w' mb wb sb ∧ Seen w' W.heap.size V' ∧ Got n B l l V V'

set_option maxHeartbeats 4000000 in
set_option maxRecDepth 100000 in
theorem walk_any (W : World) (p : Addr) (a : Option Addr) (n c : Nat) (B : Nat → Blk) (sb mb wb : Nat) (hP : PtrAt W p a n c B) (hs : W.cell? ⟨sb, 0, none⟩ = some (.pointer (some p))) (hsb : sb < W.heap.size) (hR : Right n B) (f : Nat) :
    ∀ (l : List Int) (la : Option Addr) (ln lc : Nat) (V : List Int) (w : World), NumsAt (fun _ => True) .i64 W la ln l → (∀ x ∈ l, x = 0 ∨ (There n B x ∧ (B (x - 1).toNat).level < f)) → (∀ x ∈ V, There n B x) → RE W w mb wb sb → Seen w W.heap.size V → ln < 9223372036854775807 →
    Calls Try.prog 84 #[.slice la ln lc, .pointer (some ⟨mb, 0, none⟩), .pointer (some ⟨wb, 0, none⟩), .pointer (some ⟨sb, 0, none⟩)] w fun e w' => e = .returned (.tuple #[]) ∧ Walked W mb wb sb n B l V w' := by
  induction f using Nat.strongRecOn with
  | _ f ih =>
    intro l la ln lc V w hN hl hV hE hS hln
    have hn := hR.small
    replace ih := hid ih
    replace hN := hid hN
    replace hl := hid hl
    replace hV := hid hV
    replace hR := hid hR
    replace hE := hid hE
    replace hS := hid hS
    go_enter Try.func84, Try.ntmps84
    go_wp2_with fail
    go_loopw [9] (fun v wr => ∃ j : Nat, j ≤ ln ∧ v = .int .i64 j ∧ ∃ Vj, RE W wr mb wb sb ∧ Seen wr W.heap.size Vj ∧ Got n B l (l.take j) V Vj) (fun v _ => ln - (Go.RowKit.intOf v).toNat)
    case atStart => exact ⟨0, Nat.zero_le _, rfl, V, hE.out, hS.out, by simpa using Got.start l hV.out⟩
    case round =>
      clear hE hS
      obtain ⟨j, hjn, rfl, Vj, hE, hS, hG⟩ := hrel
      by_cases hlt : j < ln
      · obtain ⟨kb, ko, rfl, hkb, _, hc⟩ := hN.out.2.2 (by omega)
        have hck : wr.cell? ⟨kb, ko + j, none⟩ = some (.int .i64 (l.getD j 0)) := (hE.bel.cell (p := ⟨kb, ko + j, none⟩) hkb).trans (hc j hlt)
        have hjl : j < l.length := by rw [hN.out.1]; exact hlt
        have hmem : l.getD j 0 ∈ l := hN.out.getD hlt
        have htk := hid (take_snoc hjl)
        have hwf : (Lit.int .i64 (l.getD j 0)).wf = true := hN.out.2.1 _ hmem
        have hkid := hid (hl.out _ hmem)
        have m0 := hE.m.cell 0
        have l0 := hE.l.cell 0
        simp at m0 l0
        replace hmem := hid hmem
        clear hc hjl
        generalize l.getD j 0 = x at *
        by_cases hx0 : x = 0
        · have hx0' : (x == 0) = true := by simp [hx0]
          have hG' : Hid (Got n B l (l.take (j + 1)) V Vj) := hid (by rw [htk.out]; exact hG.skip (.inl hx0))
          replace hE := hid hE
          replace hS := hid hS
          clear hG
          go_wp2_with fail
          go_roundw
          case rel => exact ⟨j + 1, by omega, by go_num, Vj, hE.out, hS.out, hG'.out⟩
          case measure => simp [Go.RowKit.intOf]; omega
        · have hx0' : (x == 0) = false := by simp [hx0]
          obtain ⟨D, hown, hD, hnd, hm, hat⟩ := hS
          obtain ⟨cv, hrun, hcv, hwc⟩ := hown.lookup_int law3 Try.underlying106 Try.underlying3 (zeroInt _) (keyOf_int_mk Try.underlying3 hwf)
          by_cases hin : x ∈ Vj
          · have hc1 : cv = 1 := by
              rw [hat x hin] at hcv
              simpa using hcv.symm
            subst hc1
            have hG' : Hid (Got n B l (l.take (j + 1)) V Vj) := hid (by rw [htk.out]; exact hG.skip (.inr hin))
            have hS : Hid (Seen wr W.heap.size Vj) := hid ⟨D, hown, hD, hnd, hm, hat⟩
            replace hE := hid hE
            clear hG hown hD hnd hm hat hcv hin
            go_wp2_with fail
            go_roundw
            case rel => exact ⟨j + 1, by omega, by go_num, Vj, hE.out, hS.out, hG'.out⟩
            case measure => simp [Go.RowKit.intOf]; omega
          · have hc0 : cv = 0 := by
              have h1 : has D (.int .i64 x) = false := by
                cases h2 : has D (.int .i64 x)
                · rfl
                · exact absurd ((hm x).2 h2) hin
              rw [atKey_of_not_has h1] at hcv
              simpa using hcv.symm
            subst hc0
            have hlen : Vj.length ≤ n := pigeon n Vj hnd (fun y hy => ⟨(hG.there y hy).1, (hG.there y hy).2.1⟩)
            have hput := hid (seen_put hD hnd hin hm hat)
            have hxt := hkid.out.resolve_left hx0
            obtain ⟨i, rfl⟩ : ∃ i : Nat, x = (i : Int) + 1 := ⟨(x - 1).toNat, by have := hxt.1.1; omega⟩
            have ei : ((i : Int) + 1 - 1).toNat = i := by omega
            have hi : i < n := by have := hxt.1.2.1; omega
            replace hE := hid hE
            replace hG := hid hG
            replace hcv := hid hcv
            clear hnd hm hat hD hkid
            go_wp2_with (at_mapUpdate; refine wpList_mapUpdate_own _ rfl _ _ _ 106 rfl 3 3 law3 Try.underlying106 _ W.heap.size Vj.length _ rfl hown (by unfold maxLen; omega) _ _ _ rfl rfl (keyOf_int_mk Try.underlying3 hwf) _ [] (plainElem_int Try.underlying3 (WalkArith.wf_i64 (by omega))) ?_; intro w1 hown1 hgrow1)
            replace hE := hE.out.grown hgrow1
            have hlen1 : (Vj ++ [(i : Int) + 1]).length = Vj.length + 1 := by simp
            have hS1 : Seen w1 W.heap.size (Vj ++ [(i : Int) + 1]) := ⟨_, by rw [hlen1]; exact hown1, hput.out.1, hput.out.2.1, hput.out.2.2.1, hput.out.2.2.2⟩
            clear hown1 hgrow1 hput hown hrun hcv hwc m0 l0 hck hlen1
            obtain ⟨b', off', rfl, hb', hB'⟩ := hP.store (by omega)
            obtain ⟨ka, kn, kc, ba, bn, bc, hbk⟩ := hB' i hi
            have s0 := (hE.bel.cell (p := ⟨sb, 0, none⟩) hsb).trans hs
            have q0 := (hE.bel.cell (p := p) hP.lt).trans hP.cell
            have c2 := (hE.bel.cell (p := ⟨b', off' + i * 4 + 2, none⟩) hb').trans hbk.c2
            have l0 := hE.l.cell 0
            simp at l0
            have hkn : kn < 9223372036854775807 := by
              have h1 := hbk.kids.1
              have h2 := (hR.out.one i hi).few
              omega
            have hkids := hid hbk.kids
            have hlev : Hid (∀ x ∈ (B i).kids, x = 0 ∨ (There n B x ∧ (B (x - 1).toNat).level < (((B i).level.toNat : Nat) : Int))) := hid (fun x hx => by
              rcases (hR.out.one i hi).kids x hx with h | ⟨h1, h2⟩
              · exact .inl h
              · have h3 := (hR.out.one i hi).live hx
                exact .inr ⟨h1, by omega⟩)
            have hless : (B i).level.toNat < f := by
              have h1 := hxt.2
              rw [ei] at h1
              have h2 := (hR.out.one i hi).bounds
              omega
            have hV1 : Hid (∀ x ∈ Vj ++ [(i : Int) + 1], There n B x) := hid (fun x hx => by
              rcases List.mem_append.1 hx with h | h
              · exact hG.out.there x h
              · simp at h; subst h; exact hxt.1)
            have hend : Hid (∀ V'', Got n B (B i).kids (B i).kids (Vj ++ [(i : Int) + 1]) V'' → Got n B l (l.take (j + 1)) V V'') := hid (fun V'' hk => by
              rw [htk.out]
              exact hG.out.next hx0 hmem.out hxt.1 (by rw [ei]; exact hk))
            replace hE := hid hE
            replace hS1 := hid hS1
            replace hP := hid hP
            replace hxt := hid hxt
            clear hbk hB' hb' ei hG
            go_upto_region 5 with fail
            go_region_with (first
              | (go_at_call 79; refine (at_ptr p b' off' n c i _ hn ?_ hi).mono ?_; exact q0; rintro e w' ⟨rfl, rfl⟩)
              | (go_at_call 84; refine (ih.out (B i).level.toNat hless (B i).kids ka kn kc (Vj ++ [(i : Int) + 1]) _ hkids.out hlev.out hV1.out ?_ ?_ hkn).mono ?_; exact hE.out.drew; exact hS1.out.out rfl; rintro e w' ⟨rfl, V'', hE2, hS2, hG2⟩; replace hE2 := hid hE2; replace hS2 := hid hS2; replace hG2 := hid hG2))
            all_goals (clear s0 q0 c2 l0; go_wp2_with fail; go_roundw)
            all_goals first
              | exact ⟨j + 1, by omega, by go_num, V'', hE2.out, hS2.out, hend.out V'' hG2.out⟩
              | (simp [Go.RowKit.intOf]; omega)
      · obtain rfl : j = ln := by omega
        have hG' : Hid (Got n B l l V Vj) := hid (by rw [List.take_of_length_le (by rw [hN.out.1]; exact Nat.le_refl _)] at hG; exact hG)
        replace hE := hid hE
        replace hS := hid hS
        clear hG
        go_wp2_with fail
        go_end0
        exact ⟨rfl, Vj, hE.out, hS.out, hG'.out⟩

end Go.Proofs.Ytaagnojdpedilab
