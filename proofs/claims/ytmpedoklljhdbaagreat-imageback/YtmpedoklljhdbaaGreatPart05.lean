/-
  Reach1, Iter, Reach2, StoreFreesWalk, Sto3 in one text. Nothing here is trusted.
-/
import Derived.Test.YtmpedoklljhdbaaGreatPart04
import Derived.Shelf.SlIterI.Nil
import Derived.Shelf.SortM.Plain
import Derived.Shelf.SortM.SortNone
import Derived.Ground.GgzProg
import Derived.Ground.SlgmProg
import Derived.Test.YtmpedoklljhdbaaGreatRows
import Derived.Maps.Views
set_option linter.unusedVariables false
namespace Go.Proofs.YtmpedoklljhdbaaGreat
open Go.RowKit Go.Maps

/-- what the closure finds, W having been the world ahead of the map -/
structure RE (W w : World) (mb wb sb : Nat) : Prop where
  bel : Below W.heap.size W w
  m : CellsAt w mb #[.map (some W.heap.size)] 72
  l : CellsAt w wb #[.func (.func 109) #[] #[.pointer (some ⟨mb, 0, none⟩), .pointer (some ⟨wb, 0, none⟩), .pointer (some ⟨sb, 0, none⟩)]] 174
  nm : mb ≠ W.heap.size
  nw : wb ≠ W.heap.size
theorem RE.grown {W w w' : World} {mb wb sb : Nat} (h : RE W w mb wb sb) (hg : w.grownBy w' (some W.heap.size)) : RE W w' mb wb sb := by
  refine ⟨h.bel.grown hg h.bel.size (fun k hk => by cases hk; exact Nat.le_refl _), ?_, ?_, h.nm, h.nw⟩
  · unfold CellsAt
    rw [hg.block mb h.m.lt (by simp; exact h.nm)]
    exact h.m
  · unfold CellsAt
    rw [hg.block wb h.l.lt (by simp; exact h.nw)]
    exact h.l
theorem RE.drew {W w : World} {mb wb sb : Nat} (h : RE W w mb wb sb) : RE W w.drew mb wb sb := ⟨h.bel.drew, h.m, h.l, h.nm, h.nw⟩

/-- what has been seen when some of l have been walked -/
structure Got (n : Nat) (B : Nat → Blk) (l l' : List Int) (V V' : List Int) : Prop where
  there : ∀ x ∈ V', There n B x
  sub : ∀ x ∈ V, x ∈ V'
  all : ∀ x ∈ l', x ≠ 0 → x ∈ V'
  clo : ∀ x ∈ V', x ∈ V ∨ Clo B l x
  shut : ∀ x ∈ V', x ∉ V → ∀ k ∈ (B (x - 1).toNat).kids, k ≠ 0 → k ∈ V'

theorem Got.start {n : Nat} {B : Nat → Blk} (l : List Int) {V : List Int} (h : ∀ x ∈ V, There n B x) : Got n B l [] V V := ⟨h, fun x hx => hx, by simp, fun x hx => .inl hx, fun x hx hn => absurd hx hn⟩
theorem Got.skip {n : Nat} {B : Nat → Blk} {l l' V V' : List Int} (h : Got n B l l' V V') {x : Int} (hx : x = 0 ∨ x ∈ V') : Got n B l (l' ++ [x]) V V' :=
  ⟨h.there, h.sub, fun y hy h0 => by
    rcases List.mem_append.1 hy with hy | hy
    · exact h.all y hy h0
    · simp at hy
      subst hy
      exact hx.resolve_left h0, h.clo, h.shut⟩
theorem Got.next {n : Nat} {B : Nat → Blk} {l l' V V' V'' : List Int} (h : Got n B l l' V V') {x : Int} (hx0 : x ≠ 0) (hxl : x ∈ l) (hxt : There n B x)
    (k : Got n B (B (x - 1).toNat).kids (B (x - 1).toNat).kids (V' ++ [x]) V'') : Got n B l (l' ++ [x]) V V'' := by
  have hxin : x ∈ V'' := k.sub x (by simp)
  refine ⟨k.there, fun y hy => k.sub y (by simp [h.sub y hy]), fun y hy h0 => ?_, fun y hy => ?_, fun y hy hn => ?_⟩
  · rcases List.mem_append.1 hy with hy | hy
    · exact k.sub y (by simp [h.all y hy h0])
    · simp at hy; subst hy; exact hxin
  · rcases k.clo y hy with h1 | h1
    · rcases List.mem_append.1 h1 with h2 | h2
      · exact h.clo y h2
      · simp at h2; subst h2; exact .inr (Clo.root hxl hx0)
    · exact .inr (h1.mono fun r hr h0 => (Clo.root hxl hx0).kid hr h0)
  · intro z hz h0
    by_cases e : y = x
    · subst e; exact k.all z hz h0
    · by_cases e2 : y ∈ V'
      · exact k.sub z (by simp [h.shut y e2 hn z hz h0])
      · exact k.shut y hy (by simp [e, e2]) z hz h0

/-- what the closure leaves -/
def Walked (W : World) (mb wb sb n : Nat) (B : Nat → Blk) (l V : List Int) (w' : World) : Prop := ∃ V', RE W w' mb wb sb ∧ Seen w' W.heap.size V' ∧ Got n B l l V V'

set_option maxHeartbeats 4000000 in
set_option maxRecDepth 100000 in
theorem walk_any (W : World) (p : Addr) (a : Option Addr) (n c : Nat) (B : Nat → Blk) (sb mb wb : Nat) (hP : PtrAt W p a n c B) (hs : W.cell? ⟨sb, 0, none⟩ = some (.pointer (some p))) (hsb : sb < W.heap.size) (hR : Right n B) (f : Nat) :
    ∀ (l : List Int) (la : Option Addr) (ln lc : Nat) (V : List Int) (w : World), NumsAt (fun _ => True) .i64 W la ln l → (∀ x ∈ l, x = 0 ∨ (There n B x ∧ (B (x - 1).toNat).level < f)) → (∀ x ∈ V, There n B x) → RE W w mb wb sb → Seen w W.heap.size V → ln < 9223372036854775807 →
    Calls Tryz.prog 109 #[.slice la ln lc, .pointer (some ⟨mb, 0, none⟩), .pointer (some ⟨wb, 0, none⟩), .pointer (some ⟨sb, 0, none⟩)] w fun e w' => e = .returned (.tuple #[]) ∧ Walked W mb wb sb n B l V w' := by
  induction f using Nat.strongRecOn with
  | _ f ih =>
    intro l la ln lc V w hN hl hV hE hS hln
    have hn := hR.small
    replace ih := hid ih
    replace hN := hid hN
    replace hl := hid hl
    replace hV := hid hV
    replace hR := hid hR
    replace hE := hid hE
    replace hS := hid hS
    go_enter Tryz.func109, Tryz.ntmps109
    go_wp2_with fail
    go_loopw [9] (fun v wr => ∃ j : Nat, j ≤ ln ∧ v = .int .i64 j ∧ ∃ Vj, RE W wr mb wb sb ∧ Seen wr W.heap.size Vj ∧ Got n B l (l.take j) V Vj) (fun v _ => ln - (Go.RowKit.intOf v).toNat)
    case atStart => exact ⟨0, Nat.zero_le _, rfl, V, hE.out, hS.out, by simpa using Got.start l hV.out⟩
    case round =>
      clear hE hS
      obtain ⟨j, hjn, rfl, Vj, hE, hS, hG⟩ := hrel
      by_cases hlt : j < ln
      · obtain ⟨kb, ko, rfl, hkb, _, hc⟩ := hN.out.2.2 (by omega)
        have hck : wr.cell? ⟨kb, ko + j, none⟩ = some (.int .i64 (l.getD j 0)) := (hE.bel.cell (p := ⟨kb, ko + j, none⟩) hkb).trans (hc j hlt)
        have hjl : j < l.length := by rw [hN.out.1]; exact hlt
        have hmem : l.getD j 0 ∈ l := hN.out.getD hlt
        have htk := hid (take_snoc hjl)
        have hwf : (Lit.int .i64 (l.getD j 0)).wf = true := hN.out.2.1 _ hmem
        have hkid := hid (hl.out _ hmem)
        have m0 := hE.m.cell 0
        have l0 := hE.l.cell 0
        simp at m0 l0
        replace hmem := hid hmem
        clear hc hjl
        generalize l.getD j 0 = x at *
        by_cases hx0 : x = 0
        · have hx0' : (x == 0) = true := by simp [hx0]
          have hG' : Hid (Got n B l (l.take (j + 1)) V Vj) := hid (by rw [htk.out]; exact hG.skip (.inl hx0))
          replace hE := hid hE
          replace hS := hid hS
          clear hG
          go_wp2_with fail
          go_roundw
          case rel => exact ⟨j + 1, by omega, by go_num, Vj, hE.out, hS.out, hG'.out⟩
          case measure => simp [Go.RowKit.intOf]; omega
        · have hx0' : (x == 0) = false := by simp [hx0]
          obtain ⟨D, hown, hD, hnd, hm, hat⟩ := hS
          obtain ⟨cv, hrun, hcv, hwc⟩ := hown.lookup_int law3 Tryz.underlying72 Tryz.underlying3 (zeroInt _) (keyOf_int_mk Tryz.underlying3 hwf)
          by_cases hin : x ∈ Vj
          · have hc1 : cv = 1 := by
              rw [hat x hin] at hcv
              simpa using hcv.symm
            subst hc1
            have hG' : Hid (Got n B l (l.take (j + 1)) V Vj) := hid (by rw [htk.out]; exact hG.skip (.inr hin))
            have hS : Hid (Seen wr W.heap.size Vj) := hid ⟨D, hown, hD, hnd, hm, hat⟩
            replace hE := hid hE
            clear hG hown hD hnd hm hat hcv hin
            go_wp2_with fail
            go_roundw
            case rel => exact ⟨j + 1, by omega, by go_num, Vj, hE.out, hS.out, hG'.out⟩
            case measure => simp [Go.RowKit.intOf]; omega
          · have hc0 : cv = 0 := by
              have h1 : has D (.int .i64 x) = false := by
                cases h2 : has D (.int .i64 x)
                · rfl
                · exact absurd ((hm x).2 h2) hin
              rw [atKey_of_not_has h1] at hcv
              simpa using hcv.symm
            subst hc0
            have hlen : Vj.length ≤ n := pigeon n Vj hnd (fun y hy => ⟨(hG.there y hy).1, (hG.there y hy).2.1⟩)
            have hput := hid (seen_put hD hnd hin hm hat)
            have hxt := hkid.out.resolve_left hx0
            obtain ⟨i, rfl⟩ : ∃ i : Nat, x = (i : Int) + 1 := ⟨(x - 1).toNat, by have := hxt.1.1; omega⟩
            have ei : ((i : Int) + 1 - 1).toNat = i := by omega
            have hi : i < n := by have := hxt.1.2.1; omega
            replace hE := hid hE
            replace hG := hid hG
            replace hcv := hid hcv
            clear hnd hm hat hD hkid
            go_wp2_with (at_mapUpdate; refine wpList_mapUpdate_own _ rfl _ _ _ 72 rfl 3 3 law3 Tryz.underlying72 _ W.heap.size Vj.length _ rfl hown (by unfold maxLen; omega) _ _ _ rfl rfl (keyOf_int_mk Tryz.underlying3 hwf) _ [] (plainElem_int Tryz.underlying3 (WalkArith.wf_i64 (by omega))) ?_; intro w1 hown1 hgrow1)
            replace hE := hE.out.grown hgrow1
            have hlen1 : (Vj ++ [(i : Int) + 1]).length = Vj.length + 1 := by simp
            have hS1 : Seen w1 W.heap.size (Vj ++ [(i : Int) + 1]) := ⟨_, by rw [hlen1]; exact hown1, hput.out.1, hput.out.2.1, hput.out.2.2.1, hput.out.2.2.2⟩
            clear hown1 hgrow1 hput hown hrun hcv hwc m0 l0 hck hlen1
            obtain ⟨b', off', rfl, hb', hB'⟩ := hP.store (by omega)
            obtain ⟨ka, kn, kc, ba, bn, bc, hbk⟩ := hB' i hi
            have s0 := (hE.bel.cell (p := ⟨sb, 0, none⟩) hsb).trans hs
            have q0 := (hE.bel.cell (p := p) hP.lt).trans hP.cell
            have c2 := (hE.bel.cell (p := ⟨b', off' + i * 4 + 2, none⟩) hb').trans hbk.c2
            have l0 := hE.l.cell 0
            simp at l0
            have hkn : kn < 9223372036854775807 := by
              have h1 := hbk.kids.1
              have h2 := (hR.out.one i hi).few
              omega
            have hkids := hid hbk.kids
            have hlev : Hid (∀ x ∈ (B i).kids, x = 0 ∨ (There n B x ∧ (B (x - 1).toNat).level < (((B i).level.toNat : Nat) : Int))) := hid (fun x hx => by
              rcases (hR.out.one i hi).kids x hx with h | ⟨h1, h2⟩
              · exact .inl h
              · have h3 := (hR.out.one i hi).live hx
                exact .inr ⟨h1, by omega⟩)
            have hless : (B i).level.toNat < f := by
              have h1 := hxt.2
              rw [ei] at h1
              have h2 := (hR.out.one i hi).bounds
              omega
            have hV1 : Hid (∀ x ∈ Vj ++ [(i : Int) + 1], There n B x) := hid (fun x hx => by
              rcases List.mem_append.1 hx with h | h
              · exact hG.out.there x h
              · simp at h; subst h; exact hxt.1)
            have hend : Hid (∀ V'', Got n B (B i).kids (B i).kids (Vj ++ [(i : Int) + 1]) V'' → Got n B l (l.take (j + 1)) V V'') := hid (fun V'' hk => by
              rw [htk.out]
              exact hG.out.next hx0 hmem.out hxt.1 (by rw [ei]; exact hk))
            replace hE := hid hE
            replace hS1 := hid hS1
            replace hP := hid hP
            replace hxt := hid hxt
            clear hbk hB' hb' ei hG
            go_upto_region 5 with fail
            go_region_with (first
              | (go_at_call 110; refine (at_ptr p b' off' n c i _ hn ?_ hi).mono ?_; exact q0; rintro e w' ⟨rfl, rfl⟩)
              | (go_at_call 109; refine (ih.out (B i).level.toNat hless (B i).kids ka kn kc (Vj ++ [(i : Int) + 1]) _ hkids.out hlev.out hV1.out ?_ ?_ hkn).mono ?_; exact hE.out.drew; exact hS1.out.out rfl; rintro e w' ⟨rfl, V'', hE2, hS2, hG2⟩; replace hE2 := hid hE2; replace hS2 := hid hS2; replace hG2 := hid hG2))
            all_goals (clear s0 q0 c2 l0; go_wp2_with fail; go_roundw)
            all_goals first
              | exact ⟨j + 1, by omega, by go_num, V'', hE2.out, hS2.out, hend.out V'' hG2.out⟩
              | (simp [Go.RowKit.intOf]; omega)
      · obtain rfl : j = ln := by omega
        have hG' : Hid (Got n B l l V Vj) := hid (by rw [List.take_of_length_le (by rw [hN.out.1]; exact Nat.le_refl _)] at hG; exact hG)
        replace hE := hid hE
        replace hS := hid hS
        clear hG
        go_wp2_with fail
        go_end0
        exact ⟨rfl, Vj, hE.out, hS.out, hG'.out⟩

end Go.Proofs.YtmpedoklljhdbaaGreat

namespace Go.Proofs.YtmpedoklljhdbaaGreat
open Go.RowKit Go.Maps Go.Sort Go.Shelf
def Tryz.keysA_ren : Go.Shelf.Ren := ⟨fun | 7 => 112 | 10 => 139 | n => n, fun | 23 => 72 | 26 => 3 | 3 => 3 | 28 => 178 | 0 => 0 | 27 => 177 | 33 => 110 | 4 => 4 | n => n, fun | n => n⟩
theorem Tryz.keysA : Go.Proofs.SlLaysZI.n7 Tryz.prog Tryz.keysA_ren := {
  mixed := by kernel_rfl
  f7 := ⟨Tryz.f112.name, by decide, Tryz.func112.trans (congrArg some (by kernel_rfl))⟩
  f10 := ⟨Tryz.f139.name, by decide, Tryz.func139.trans (congrArg some (by kernel_rfl))⟩
  t0 := Tryz.underlying0
  a0 := Tryz.isAgg0
  z0 := Tryz.sizeOf0
  v0 := Tryz.zeroValue0
  t4 := Tryz.underlying4
  a4 := Tryz.isAgg4
  z4 := Tryz.sizeOf4
  v4 := Tryz.zeroValue4
  t23 := Tryz.underlying72
  a23 := Tryz.isAgg72
  z23 := Tryz.sizeOf72
  v23 := Tryz.zeroValue72
  t26 := Tryz.underlying3
  a26 := Tryz.isAgg3
  z26 := Tryz.sizeOf3
  v26 := Tryz.zeroValue3
  t27 := Tryz.underlying177
  a27 := Tryz.isAgg177
  z27 := Tryz.sizeOf177
  v27 := Tryz.zeroValue177
  t28 := Tryz.underlying178
  a28 := Tryz.isAgg178
  z28 := Tryz.sizeOf178
  v28 := Tryz.zeroValue178
  t33 := Tryz.underlying110
  a33 := Tryz.isAgg110
  z33 := Tryz.sizeOf110
  v33 := Tryz.zeroValue110 }
def Tryz.sortedA_ren : Go.Shelf.Ren := ⟨fun | 6 => 111 | 8 => 137 | 9 => 138 | 11 => 159 | 13 => 161 | 12 => 160 | 23 => 188 | 24 => 189 | 14 => 179 | 15 => 180 | 16 => 181 | 17 => 182 | 18 => 183 | 19 => 184 | 20 => 185 | 21 => 186 | 22 => 187 | 25 => 197 | 26 => 198 | 27 => 199 | 28 => 200 | 29 => 201 | 30 => 202 | 31 => 210 | n => n, fun | 26 => 3 | 28 => 178 | 24 => 69 | 0 => 0 | 3 => 3 | 37 => 157 | 48 => 245 | 50 => 247 | 4 => 4 | 40 => 238 | 39 => 237 | 45 => 97 | 5 => 5 | 9 => 9 | 51 => 255 | 55 => 259 | 57 => 262 | 58 => 263 | 33 => 110 | n => n, fun | n => n⟩
theorem Tryz.sortedA : Go.Proofs.SlLaysZI.n6 Tryz.prog Tryz.sortedA_ren := {
  mixed := by kernel_rfl
  f6 := ⟨Tryz.f111.name, by decide, Tryz.func111.trans (congrArg some (by kernel_rfl))⟩
  f8 := ⟨Tryz.f137.name, by decide, Tryz.func137.trans (congrArg some (by kernel_rfl))⟩
  f11 := ⟨Tryz.f159.name, by decide, Tryz.func159.trans (congrArg some (by kernel_rfl))⟩
  t0 := Tryz.underlying0
  a0 := Tryz.isAgg0
  z0 := Tryz.sizeOf0
  v0 := Tryz.zeroValue0
  t24 := Tryz.underlying69
  a24 := Tryz.isAgg69
  z24 := Tryz.sizeOf69
  v24 := Tryz.zeroValue69
  t26 := Tryz.underlying3
  a26 := Tryz.isAgg3
  z26 := Tryz.sizeOf3
  v26 := Tryz.zeroValue3
  t28 := Tryz.underlying178
  a28 := Tryz.isAgg178
  z28 := Tryz.sizeOf178
  v28 := Tryz.zeroValue178
  i26 := by kernel_rfl }
def Tryz.sortA_ren : Go.Shelf.Ren := ⟨fun | 5 => 138 | 8 => 161 | 7 => 160 | 19 => 188 | 20 => 189 | 10 => 179 | 11 => 180 | 12 => 181 | 13 => 182 | 14 => 183 | 15 => 184 | 16 => 185 | 17 => 186 | 18 => 187 | 30 => 197 | 31 => 198 | 32 => 199 | 33 => 200 | 34 => 201 | 35 => 202 | 40 => 210 | n => n, fun | 23 => 69 | 25 => 3 | 3 => 3 | 32 => 157 | 22 => 69 | 0 => 0 | 44 => 245 | 46 => 247 | 4 => 4 | 36 => 238 | 35 => 237 | 41 => 97 | 5 => 5 | 9 => 9 | 53 => 255 | 57 => 259 | 63 => 262 | 64 => 263 | n => n, fun | n => n⟩
theorem Tryz.sortA : Go.Proofs.SlLaysM.n5 Tryz.prog Tryz.sortA_ren := {
  mixed := by kernel_rfl
  f5 := ⟨Tryz.f138.name, by decide, Tryz.func138.trans (congrArg some (by kernel_rfl))⟩
  f7 := ⟨Tryz.f160.name, by decide, Tryz.func160.trans (congrArg some (by kernel_rfl))⟩
  f8 := Tryz.func161.trans (congrArg some (by kernel_rfl))
  f10 := ⟨Tryz.f179.name, by decide, Tryz.func179.trans (congrArg some (by kernel_rfl))⟩
  f11 := ⟨Tryz.f180.name, by decide, Tryz.func180.trans (congrArg some (by kernel_rfl))⟩
  f12 := ⟨Tryz.f181.name, by decide, Tryz.func181.trans (congrArg some (by kernel_rfl))⟩
  f13 := ⟨Tryz.f182.name, by decide, Tryz.func182.trans (congrArg some (by kernel_rfl))⟩
  f14 := ⟨Tryz.f183.name, by decide, Tryz.func183.trans (congrArg some (by kernel_rfl))⟩
  f15 := ⟨Tryz.f184.name, by decide, Tryz.func184.trans (congrArg some (by kernel_rfl))⟩
  f16 := ⟨Tryz.f185.name, by decide, Tryz.func185.trans (congrArg some (by kernel_rfl))⟩
  f17 := ⟨Tryz.f186.name, by decide, Tryz.func186.trans (congrArg some (by kernel_rfl))⟩
  f18 := ⟨Tryz.f187.name, by decide, Tryz.func187.trans (congrArg some (by kernel_rfl))⟩
  f19 := Tryz.func188.trans (congrArg some (by kernel_rfl))
  f20 := Tryz.func189.trans (congrArg some (by kernel_rfl))
  f30 := ⟨Tryz.f197.name, by decide, Tryz.func197.trans (congrArg some (by kernel_rfl))⟩
  f31 := Tryz.func198.trans (congrArg some (by kernel_rfl))
  f32 := Tryz.func199.trans (congrArg some (by kernel_rfl))
  f33 := ⟨Tryz.f200.name, by decide, Tryz.func200.trans (congrArg some (by kernel_rfl))⟩
  f34 := ⟨Tryz.f201.name, by decide, Tryz.func201.trans (congrArg some (by kernel_rfl))⟩
  f35 := ⟨Tryz.f202.name, by decide, Tryz.func202.trans (congrArg some (by kernel_rfl))⟩
  f40 := ⟨Tryz.f210.name, by decide, Tryz.func210.trans (congrArg some (by kernel_rfl))⟩
  t0 := Tryz.underlying0
  a0 := Tryz.isAgg0
  z0 := Tryz.sizeOf0
  v0 := Tryz.zeroValue0
  t3 := Tryz.underlying3
  a3 := Tryz.isAgg3
  z3 := Tryz.sizeOf3
  v3 := Tryz.zeroValue3
  t4 := Tryz.underlying4
  a4 := Tryz.isAgg4
  z4 := Tryz.sizeOf4
  v4 := Tryz.zeroValue4
  t5 := Tryz.underlying5
  a5 := Tryz.isAgg5
  z5 := Tryz.sizeOf5
  v5 := Tryz.zeroValue5
  t9 := Tryz.underlying9
  a9 := Tryz.isAgg9
  z9 := Tryz.sizeOf9
  v9 := Tryz.zeroValue9
  t22 := Tryz.underlying69
  a22 := Tryz.isAgg69
  z22 := Tryz.sizeOf69
  v22 := Tryz.zeroValue69
  t23 := Tryz.underlying69
  a23 := Tryz.isAgg69
  z23 := Tryz.sizeOf69
  v23 := Tryz.zeroValue69
  t25 := Tryz.underlying3
  a25 := Tryz.isAgg3
  z25 := Tryz.sizeOf3
  v25 := Tryz.zeroValue3
  t32 := Tryz.underlying157
  a32 := Tryz.isAgg157
  z32 := Tryz.sizeOf157
  v32 := Tryz.zeroValue157
  t35 := Tryz.underlying237
  a35 := Tryz.isAgg237
  z35 := Tryz.sizeOf237
  v35 := Tryz.zeroValue237
  t36 := Tryz.underlying238
  a36 := Tryz.isAgg238
  z36 := Tryz.sizeOf238
  v36 := Tryz.zeroValue238
  t41 := Tryz.underlying97
  a41 := Tryz.isAgg97
  z41 := Tryz.sizeOf97
  v41 := Tryz.zeroValue97
  t44 := Tryz.underlying245
  a44 := Tryz.isAgg245
  z44 := Tryz.sizeOf245
  v44 := Tryz.zeroValue245
  t46 := Tryz.underlying247
  a46 := Tryz.isAgg247
  z46 := Tryz.sizeOf247
  v46 := Tryz.zeroValue247
  t53 := Tryz.underlying255
  a53 := Tryz.isAgg255
  z53 := Tryz.sizeOf255
  v53 := Tryz.zeroValue255
  t57 := Tryz.underlying259
  a57 := Tryz.isAgg259
  z57 := Tryz.sizeOf259
  v57 := Tryz.zeroValue259
  t63 := Tryz.underlying262
  a63 := Tryz.isAgg262
  z63 := Tryz.sizeOf262
  v63 := Tryz.zeroValue262
  t64 := Tryz.underlying263
  a64 := Tryz.isAgg263
  z64 := Tryz.sizeOf263
  v64 := Tryz.zeroValue263 }

/-- slices.Sort's two contracts at this dump, at the fence that asks nothing. -/
theorem sortsA (m : Nat) : AnyZI.SortsIn Tryz.prog Tryz.sortedA_ren Fence.wide m :=
  ⟨fun blk off cap ss W hH hblk hsz => callsIn_wide.2 (AnyM.slices_Sort_int Tryz.sortA blk off cap ss W hH hblk hsz),
   fun p cap W => callsIn_wide.2 (AnyM.slices_Sort_int_none Tryz.sortA p cap W)⟩

theorem keys_any (mb : Option Nat) (W : World) : Calls Tryz.prog 112 #[.map mb] W fun e w' => e = .returned (.func (.func 139) #[] #[.pointer (some ⟨W.heap.size, 0, none⟩)]) ∧ w' = W.alloc (.cells #[.map mb] 72) :=
  (callsIn_wide (n := 5)).1 (AnyZI.keys_in Tryz.keysA Fence.wide 5 trivial rfl mb W)

set_option maxHeartbeats 1000000 in
theorem sortedKeys_any {H : Type} (b nn : Nat) (D0 : DataW H) (R : Value → Option (DataW H × List MemPlace)) (w : World) (hown : w.ownsMap Tryz.prog 3 R b nn D0) (hmax : Maps.size D0 ≤ maxLen) (hbytes : Maps.size D0 * 8 ≤ 140737488355328) :
    Calls Tryz.prog 111 #[.func (.func 139) #[] #[.pointer (some ⟨w.heap.size, 0, none⟩)]] (w.alloc (.cells #[.map (some b)] 72)) fun e w' => ∃ (v : Value) (ss : List Int), e = .returned v ∧ ss.Perm (intKeys D0) ∧
      w'.ownsRow (w.heap.size + 1) 3 1 v ss.length ((ss.mergeSort (fun x y => decide (x ≤ y))).map encZ) ∧ (v = .slice none 0 0 ↔ ss = []) ∧ Below (w.heap.size + 1) (w.alloc (.cells #[.map (some b)] 72)) w' := by
  refine (callsIn_wide (n := 5)).1 ?_
  have hbl := hown.lt
  have hseq : SeqGives Fence.wide 2 Tryz.prog 139 #[.pointer (some ⟨w.heap.size, 0, none⟩)] encZ (fun ss => ss.Perm (intKeys D0)) (Maps.size D0) (w.alloc (.cells #[.map (some b)] 72)) :=
    AnyZI.keys_gives (ρ := Tryz.keysA_ren) { Tryz.keysA with } Fence.wide _ trivial rfl (by omega) w.heap.size b nn D0 _ (by simp) (by simp) (by
      obtain ⟨es, clock, hb, Ft, hs, hD⟩ := hown
      exact ⟨es, clock, (Below.heap_alloc _ _ b hbl).trans hb, Ft, hs, hD⟩)
  have cS := AnyZI.sorted_in Tryz.sortedA Fence.wide 5 trivial trivial trivial trivial rfl (by omega) (sortsA _) (enters_of Tryz.func138 (by kernel_rfl) rfl) 139 #[.pointer (some ⟨w.heap.size, 0, none⟩)] trivial (enters_of Tryz.func139 (by kernel_rfl) rfl) _ _ hmax hbytes _ hseq
  change CallsIn _ _ Tryz.prog 111 _ _ _ at cS
  refine cS.mono ?_
  rintro e w' ⟨v, ss, rfl, h1, h2, h3, h4⟩
  rw [World.size_alloc] at h2 h4
  exact ⟨v, ss, rfl, h1, h2, h3, h4⟩

end Go.Proofs.YtmpedoklljhdbaaGreat

namespace Go.Proofs.YtmpedoklljhdbaaGreat
open Go.RowKit Go.Maps

/-- rising -/
def Rising (L : List Int) : Prop := L.Pairwise (fun x y => x < y)

theorem sorted_of (V : List Int) (hn : V.Nodup) : Rising (V.mergeSort leI) ∧ ∀ x, x ∈ V.mergeSort leI ↔ x ∈ V := by
  have tr : ∀ a b c : Int, leI a b = true → leI b c = true → leI a c = true := fun a b c h1 h2 => by simp only [leI, decide_eq_true_eq] at *; exact Int.le_trans h1 h2
  have to : ∀ a b : Int, (leI a b || leI b a) = true := fun a b => by simp only [leI, Bool.or_eq_true, decide_eq_true_eq]; exact Int.le_total a b
  have h1 := List.pairwise_mergeSort tr to V
  have h2 : (V.mergeSort leI).Nodup := (List.mergeSort_perm V leI).nodup_iff.2 hn
  refine ⟨?_, fun x => (List.mergeSort_perm V leI).mem_iff⟩
  unfold Rising
  have h3 := List.Pairwise.and h1 h2
  refine h3.imp ?_
  intro a b h
  have ha := h.1
  simp only [leI, decide_eq_true_eq] at ha
  have := h.2
  omega

/-- what Reach answers: a list in new memory -/
def ListAt (base : Nat) (w : World) (v : Value) (L : List Int) : Prop := w.ownsRow base 3 1 v L.length (L.map (Value.int .i64)) ∧ ∀ x ∈ L, (Lit.int .i64 x).wf = true

/-- what Reach refuses not -/
def Reachable (n : Nat) (B : Nat → Blk) (l : List Int) : Prop := Right n B ∧ RootsOk n B l

def RetR (base : Nat) (e : Ending) (w : World) (n : Nat) (B : Nat → Blk) (l : List Int) : Prop :=
  (∃ e', e = .returned (.tuple #[.slice none 0 0, .int .i64 e']) ∧ e' ≠ 0 ∧ ¬ Reachable n B l) ∨
  (Reachable n B l ∧ ∃ v L, e = .returned (.tuple #[v, .int .i64 0]) ∧ ListAt base w v L ∧ Rising L ∧ ∀ x, x ∈ L ↔ Clo B l x)

theorem size_of_perm {D : DataW Unit} {V : List Int} (hD : IsMap D) (h : V.Perm (intKeys D)) : Maps.size D = V.length := by
  obtain ⟨es, rfl⟩ := hD
  rw [h.length_eq]
  simp [intKeys, Maps.size]

theorem seen_new (w : World) : Seen (w.alloc (.map #[] 0)) w.heap.size [] :=
  ⟨.map [], World.ownsMap_made _ _ _ _, ⟨[], rfl⟩, List.nodup_nil, fun x => by simp [has], fun x hx => by simp at hx⟩

set_option maxHeartbeats 4000000 in
set_option maxRecDepth 100000 in
theorem reach_any (p : Addr) (a : Option Addr) (n c : Nat) (B : Nat → Blk) (la : Option Addr) (ln lc : Nat) (l : List Int) (w : World) (h : PtrAt w p a n c B) (hl : NumsAt (fun _ => True) .i64 w la ln l) (hln : ln < 9223372036854775807) :
    Calls Tryz.prog 82 #[.pointer (some p), .slice la ln lc] w fun e w' => RetR w.heap.size e w' n B l ∧ Below w.heap.size w w' := by
  have hmm := @run_makeMap Tryz.prog
  have hmf : ∀ (fn : Fn) (first cap : Array Value) (w : World), (Instr.makeFunc fn first cap).run Tryz.prog w = .ok (.func fn first cap) w := fun _ _ _ _ => rfl
  have b0 := below_alloc w (.cells #[.pointer (some p)] 62)
  have k0 : CellsAt _ w.heap.size #[.pointer (some p)] 62 := cellsAt_alloc w _ _
  replace h := h.below b0
  replace hl := hl.below b0
  go_enter Tryz.func82, Tryz.ntmps82
  go_wp2_with fail
  generalize w.alloc (.cells #[.pointer (some p)] 62) = w0 at *
  refine (check_any p a n c B w0 h).mono ?_
  rintro e w1 ⟨⟨e', rfl, he⟩, b1⟩
  replace h := h.below b1
  replace hl := hl.below b1
  replace k0 := k0.below b1
  replace b1 := Below.tr b0 b1
  have s0 := k0.cell 0
  simp at s0
  replace he := hid he
  clear b0
  by_cases h0 : e' = 0
  · have h0' : (e' == 0) = true := by simp [h0]
    have hR := he.out.1 h0
    have hn := hR.small
    have q0 := h.cell
    replace hR := hid hR
    replace hl := hid hl
    replace h := hid h
    replace k0 := hid k0
    go_wp2_with fail
    go_loopw [18] (fun v wr => ∃ j : Nat, j ≤ ln ∧ v = .int .i64 j ∧ (∀ r ∈ l.take j, r = 0 ∨ There n B r) ∧ wr = w1) (fun v _ => ln - (Go.RowKit.intOf v).toNat)
    case atStart => exact ⟨0, Nat.zero_le _, rfl, by simp, rfl⟩
    case round =>
      obtain ⟨j, hjn, rfl, hok, rfl⟩ := hrel
      by_cases hlt : j < ln
      · obtain ⟨kb, ko, rfl, hkb, _, hc⟩ := hl.out.2.2 (by omega)
        have hck := hc j hlt
        have hjl : j < l.length := by rw [hl.out.1]; exact hlt
        have hmem : Hid (l.getD j 0 ∈ l) := hid (hl.out.getD hlt)
        have hstep : Hid ((l.getD j 0 = 0 ∨ There n B (l.getD j 0)) → ∀ r ∈ l.take (j + 1), r = 0 ∨ There n B r) := hid (fun hx r hr => by
          rw [take_snoc hjl] at hr
          rcases List.mem_append.1 hr with hr | hr
          · exact hok r hr
          · simp only [List.mem_singleton] at hr
            rw [hr]; exact hx)
        clear hc hjl hok
        generalize l.getD j 0 = x at *
        by_cases hx0 : x = 0
        · have hx0' : (x == 0) = true := by simp [hx0]
          go_wp2_with fail
          go_roundw
          case rel => exact ⟨j + 1, by omega, by go_num, hstep.out (.inl hx0), trivial⟩
          case measure => simp [Go.RowKit.intOf]; omega
        · have hx0' : (x == 0) = false := by simp [hx0]
          go_wp2_with fail
          refine (there_any p a n c B x _ hn q0 h.out.store).mono ?_
          rintro e w2 ⟨⟨t, rfl, ht⟩, rfl⟩
          replace ht := hid ht
          cases t
          · go_wp2_with fail
            go_ret2
            exact ⟨.inl ⟨5, rfl, by omega, fun f => by
              rcases f.2 x hmem.out with h1 | h1
              · exact hx0 h1
              · simpa using ht.out.2 h1⟩, b1⟩
          · go_wp2_with fail
            go_roundw
            case rel => exact ⟨j + 1, by omega, by go_num, hstep.out (.inr (by simpa using ht.out)), trivial⟩
            case measure => simp [Go.RowKit.intOf]; omega
      · obtain rfl : j = ln := by omega
        have hok' : Hid (RootsOk n B l) := hid (by
          intro r hr
          rw [← List.take_of_length_le (l := l) (i := j) (by rw [hl.out.1]; exact Nat.le_refl _)] at hr
          exact hok r hr)
        clear hok
        go_wp2_with fail
        have bM := below_alloc wr (.map #[] 0)
        have bA := (bM.alloc (by simp) (.cells #[.map (some wr.heap.size)] 72)).alloc (by simp; omega) (.cells #[.func (.func 109) #[] #[.pointer (some ⟨wr.heap.size + 1, 0, none⟩), .pointer (some ⟨wr.heap.size + 1 + 1, 0, none⟩), .pointer (some ⟨w.heap.size, 0, none⟩)]] 174)
        have kM : CellsAt _ (wr.heap.size + 1) #[.map (some wr.heap.size)] 72 := (cellsAt_alloc2 wr (.map #[] 0) _ _).below (below_alloc _ (.cells #[.func (.func 109) #[] #[.pointer (some ⟨wr.heap.size + 1, 0, none⟩), .pointer (some ⟨wr.heap.size + 1 + 1, 0, none⟩), .pointer (some ⟨w.heap.size, 0, none⟩)]] 174))
        have kL := cellsAt_alloc3 wr (.map #[] 0) (.cells #[.map (some wr.heap.size)] 72) #[.func (.func 109) #[] #[.pointer (some ⟨wr.heap.size + 1, 0, none⟩), .pointer (some ⟨wr.heap.size + 1 + 1, 0, none⟩), .pointer (some ⟨w.heap.size, 0, none⟩)]] 174
        have hSe := (seen_new wr).out (w' := ((wr.alloc (.map #[] 0)).alloc (.cells #[.map (some wr.heap.size)] 72)).alloc (.cells #[.func (.func 109) #[] #[.pointer (some ⟨wr.heap.size + 1, 0, none⟩), .pointer (some ⟨wr.heap.size + 1 + 1, 0, none⟩), .pointer (some ⟨w.heap.size, 0, none⟩)]] 174)) (by rw [Below.heap_alloc _ _ _ (by simp; omega), Below.heap_alloc _ _ _ (by simp)])
        have hRE : RE wr (((wr.alloc (.map #[] 0)).alloc (.cells #[.map (some wr.heap.size)] 72)).alloc (.cells #[.func (.func 109) #[] #[.pointer (some ⟨wr.heap.size + 1, 0, none⟩), .pointer (some ⟨wr.heap.size + 1 + 1, 0, none⟩), .pointer (some ⟨w.heap.size, 0, none⟩)]] 174)) (wr.heap.size + 1) (wr.heap.size + 1 + 1) w.heap.size := ⟨bA, kM, kL, by omega, by omega⟩
        generalize ((wr.alloc (.map #[] 0)).alloc (.cells #[.map (some wr.heap.size)] 72)).alloc (.cells #[.func (.func 109) #[] #[.pointer (some ⟨wr.heap.size + 1, 0, none⟩), .pointer (some ⟨wr.heap.size + 1 + 1, 0, none⟩), .pointer (some ⟨w.heap.size, 0, none⟩)]] 174) = w2 at *
        refine (walk_any wr p a n c B w.heap.size (wr.heap.size + 1) (wr.heap.size + 1 + 1) h.out s0 k0.out.lt hR.out 4 l la j lc [] w2 hl.out (fun x hx => by
          rcases hok'.out x hx with h1 | h1
          · exact .inl h1
          · have := (hR.out.one _ (ix h1.1 h1.2.1).1).bounds
            exact .inr ⟨h1, by omega⟩) (by simp) hRE hSe hln).mono ?_
        rintro e w3 ⟨rfl, V, hE, hS, hG⟩
        have m0 := hE.m.cell 0
        simp at m0
        have hb3 := hE.bel
        obtain ⟨D, hown, hD, hnd, hm, hat⟩ := hS
        have hperm : V.Perm (intKeys D) := CollectedI.perm (left := fun _ => false) ⟨hnd, fun x => by simp [hm x]⟩ hown law3 Tryz.underlying3 (fun _ => rfl)
        have hlen : V.length ≤ n := pigeon n V hnd (fun y hy => ⟨(hG.there y hy).1, (hG.there y hy).2.1⟩)
        have hsize := size_of_perm hD hperm
        have hmemL : Hid (∀ x, x ∈ V ↔ Clo B l x) := hid (fun x => ⟨fun hx => (hG.clo x hx).resolve_left (by simp), fun hx => hx (fun y => y ∈ V) hG.all (fun y hy k hk h0 => hG.shut y hy (by simp) k hk h0)⟩)
        have hthere := hid hG.there
        replace hperm := hid hperm
        replace hnd := hid hnd
        replace hb3 := hid hb3
        replace hown := hid hown
        clear hE hG hm hat hSe hRE bA bM kM kL hD
        go_wp2_with fail
        refine (keys_any (some wr.heap.size) w3).mono ?_
        rintro e w4 ⟨rfl, rfl⟩
        go_wp2_with fail
        refine (sortedKeys_any wr.heap.size V.length D _ w3 hown.out (by rw [hsize]; unfold maxLen; omega) (by rw [hsize]; omega)).mono ?_
        rintro e w5 ⟨v, ss, rfl, hss, hrow, hnil, b5⟩
        have hsort : ss.mergeSort (fun x y => decide (x ≤ y)) = V.mergeSort leI := mergeSort_of_perm_i (hss.trans hperm.out.symm)
        have hslen : ss.length = (V.mergeSort leI).length := by rw [← hsort]; simp
        rw [hsort, hslen] at hrow
        have bT : Below w.heap.size w w5 := (Below.tr b1 hb3.out).trans ((below_alloc w3 (.cells #[.map (some wr.heap.size)] 72)).trans (b5.mono (by omega)) |>.mono (by have := (Below.tr b1 hb3.out).size; omega))
        have hsz : w.heap.size ≤ w3.heap.size := (Below.tr b1 hb3.out).size
        replace hrow := hid hrow
        clear hss hsort hslen hnil b5
        go_wp2_with fail
        go_ret2
        refine ⟨.inr ⟨⟨hR.out, hok'.out⟩, v, V.mergeSort leI, rfl, ⟨ownsRow_base (by omega) hrow.out, fun x hx => ?_⟩, (sorted_of V hnd.out).1, fun x => ((sorted_of V hnd.out).2 x).trans (hmemL.out x)⟩, bT⟩
        have h1 := hthere.out x (((sorted_of V hnd.out).2 x).1 hx)
        exact WalkArith.wf_i64 (by have := h1.1; have := h1.2.1; omega)
  · have h0' : (e' == 0) = false := by simp [h0]
    go_wp2_with fail
    go_ret2
    exact ⟨.inl ⟨e', rfl, h0, fun f => h0 (he.out.2 f.1)⟩, b1⟩

set_option maxHeartbeats 1000000 in
theorem storeReach_any (a : Option Addr) (n c : Nat) (B : Nat → Blk) (la : Option Addr) (ln lc : Nat) (l : List Int) (w : World) (h : StoreAt w a n B) (hl : NumsAt (fun _ => True) .i64 w la ln l) (hln : ln < 9223372036854775807) :
    Calls Tryz.prog 51 #[.agg #[.slice a n c], .slice la ln lc] w fun e w' => RetR w.heap.size e w' n B l ∧ Below w.heap.size w w' := by
  go_enter Tryz.func51, Tryz.ntmps51
  go_wp2_with fail
  refine (reach_any _ a n c B la ln lc l _ (ptr_boxed a n c B w _ h) (hl.below (below_alloc _ _)) hln).mono ?_
  rintro e w1 ⟨⟨e', rfl, he, hR⟩ | ⟨hR, v, L, rfl, hL, hr, hm⟩, b1⟩
  · replace hR := hid hR
    go_wp2_with fail
    go_ret2
    exact ⟨.inl ⟨e', rfl, he, hR.out⟩, Below.tr (below_alloc _ _) b1⟩
  · replace hR := hid hR
    replace hL := hid hL
    replace hr := hid hr
    replace hm := hid hm
    go_wp2_with fail
    go_ret2
    exact ⟨.inr ⟨hR.out, v, L, rfl, ⟨ownsRow_base (by simp) hL.out.1, hL.out.2⟩, hr.out, hm.out⟩, Below.tr (below_alloc _ _) b1⟩

end Go.Proofs.YtmpedoklljhdbaaGreat

namespace Go.Proofs.YtmpedoklljhdbaaGreat
open Go.RowKit

/-- the addresses, rising, of those of the first places of which p holds -/
def heldL (p : Nat → Bool) : Nat → List Int
  | 0 => []
  | i + 1 => heldL p i ++ (if p i then [(i : Int) + 1] else [])
theorem heldL_length (p : Nat → Bool) : ∀ i, (heldL p i).length ≤ i
  | 0 => by simp [heldL]
  | i + 1 => by
    have := heldL_length p i
    unfold heldL
    split <;> simp <;> omega
theorem mem_heldL (p : Nat → Bool) (x : Int) : ∀ i, x ∈ heldL p i ↔ ∃ k, k < i ∧ p k = true ∧ x = (k : Int) + 1
  | 0 => by simp [heldL]
  | i + 1 => by
    unfold heldL
    rw [List.mem_append, mem_heldL p x i]
    constructor
    · rintro (⟨k, hk, h⟩ | h)
      · exact ⟨k, by omega, h⟩
      · by_cases hp : p i = true
        · rw [if_pos hp] at h
          exact ⟨i, by omega, hp, by simpa using h⟩
        · rw [if_neg hp] at h
          cases h
    · rintro ⟨k, hk, hp, h⟩
      by_cases e : k = i
      · subst e
        right
        rw [if_pos hp]
        simpa using h
      · exact .inl ⟨k, by omega, hp, h⟩
theorem heldL_wf (p : Nat → Bool) (i : Nat) (hi : i ≤ 400) : ∀ x ∈ heldL p i, (Lit.int .i64 x).wf = true := by
  intro x hx
  obtain ⟨k, hk, _, rfl⟩ := (mem_heldL p x i).1 hx
  exact WalkArith.wf_i64 (by omega)

end Go.Proofs.YtmpedoklljhdbaaGreat

namespace Go.Proofs.YtmpedoklljhdbaaGreat

/-- where both are there they say the same -/
def Like (n : Nat) (B C : Nat → Blk) : Prop := ∀ i, i < n → (B i).refs = 0 ∨ (C i).refs = 0 ∨ ((B i).level = (C i).level ∧ (B i).kids = (C i).kids ∧ (B i).bytes = (C i).bytes)
theorem Like.symm {n : Nat} {B C : Nat → Blk} (h : Like n B C) : Like n C B := fun i hi => by
  rcases h i hi with h | h | ⟨h1, h2, h3⟩
  · exact .inr (.inl h)
  · exact .inl h
  · exact .inr (.inr ⟨h1.symm, h2.symm, h3.symm⟩)

theorem blk_ext {b c : Blk} (h0 : b.refs = c.refs) (h1 : b.level = c.level) (h2 : b.kids = c.kids) (h3 : b.bytes = c.bytes) : b = c := by
  cases b; cases c; simp_all

theorem kid_of {n : Nat} {B : Nat → Blk} (hR : Right n B) {i j : Nat} (hj : j < n) (hm : ((i : Int) + 1) ∈ (B j).kids) : (B i).refs ≠ 0 ∧ (B j).level = (B i).level + 1 ∧ (B j).refs ≠ 0 := by
  have hl := (hR.one j hj).live hm
  rcases (hR.one j hj).kids _ hm with h | ⟨⟨_, _, h1⟩, h2⟩
  · omega
  · rw [show ((i : Int) + 1 - 1).toNat = i by omega] at h1 h2
    exact ⟨h1, by omega, by omega⟩

theorem same_step {n : Nat} {B C : Nat → Blk} (hB : Right n B) (hC : Right n C) (hL : Like n B C) (ho : ∀ i, i < n → outs n B i = outs n C i) (l : Int)
    (hb : ∀ j, j < n → l + 1 ≤ (B j).level → (B j).refs ≠ 0 → B j = C j) (hc : ∀ j, j < n → l + 1 ≤ (C j).level → (C j).refs ≠ 0 → B j = C j) :
    ∀ i, i < n → l ≤ (B i).level → (B i).refs ≠ 0 → B i = C i := by
  intro i hi hl hr
  have hcount : among n B ((i : Int) + 1) = among n C ((i : Int) + 1) := sumTo_congr fun j hj => by
    by_cases h1 : ((i : Int) + 1) ∈ (B j).kids
    · obtain ⟨_, h2, h3⟩ := kid_of hB hj h1
      show (B j).kids.count _ = (C j).kids.count _
      rw [hb j hj (by omega) h3]
    · by_cases h2 : ((i : Int) + 1) ∈ (C j).kids
      · obtain ⟨h3, h4, h5⟩ := kid_of hC hj h2
        have h6 : (B i).level = (C i).level := by
          rcases hL i hi with h | h | ⟨h, _⟩
          · exact absurd h hr
          · exact absurd h h3
          · exact h
        show (B j).kids.count _ = (C j).kids.count _
        rw [hc j hj (by omega) h5]
      · show (B j).kids.count _ = (C j).kids.count _
        rw [List.count_eq_zero.2 h1, List.count_eq_zero.2 h2]
  have h1 := ho i hi
  unfold outs at h1
  rw [hcount] at h1
  have h2 : (B i).refs = (C i).refs := by omega
  rcases hL i hi with h | h | ⟨h3, h4, h5⟩
  · exact absurd h hr
  · omega
  · exact blk_ext h2 h3 h4 h5

theorem same_of {n : Nat} {B C : Nat → Blk} (hB : Right n B) (hC : Right n C) (hL : Like n B C) (ho : ∀ i, i < n → outs n B i = outs n C i) : ∀ i, i < n → B i = C i := by
  have step : ∀ d : Nat, d ≤ 4 → (∀ i, i < n → (4 : Int) - d ≤ (B i).level → (B i).refs ≠ 0 → B i = C i) ∧ (∀ i, i < n → (4 : Int) - d ≤ (C i).level → (C i).refs ≠ 0 → B i = C i) := by
    intro d
    induction d with
    | zero =>
      intro _
      exact ⟨fun i hi hl _ => by have := (hB.one i hi).bounds; omega, fun i hi hl _ => by have := (hC.one i hi).bounds; omega⟩
    | succ d ih =>
      intro hd
      obtain ⟨h1, h2⟩ := ih (by omega)
      have h1' : ∀ j, j < n → ((4 : Int) - (d + 1 : Nat)) + 1 ≤ (B j).level → (B j).refs ≠ 0 → B j = C j := fun j hj hl => h1 j hj (by omega)
      have h2' : ∀ j, j < n → ((4 : Int) - (d + 1 : Nat)) + 1 ≤ (C j).level → (C j).refs ≠ 0 → B j = C j := fun j hj hl => h2 j hj (by omega)
      exact ⟨same_step hB hC hL ho _ h1' h2', fun i hi hl hr => (same_step hC hB hL.symm (fun i hi => (ho i hi).symm) _ (fun j hj a b => (h2' j hj a b).symm) (fun j hj a b => (h1' j hj a b).symm) i hi hl hr).symm⟩
  obtain ⟨h1, h2⟩ := step 4 (Nat.le_refl _)
  intro i hi
  by_cases hb : (B i).refs = 0
  · by_cases hc : (C i).refs = 0
    · rw [(hB.one i hi).zero hb, (hC.one i hi).zero hc]
    · have := (hC.one i hi).bounds
      exact h2 i hi (by omega) hc
  · have := (hB.one i hi).bounds
    exact h1 i hi (by omega) hb

theorem fell_like {n : Nat} {B C : Nat → Blk} {T : List Int} (h : Fell n B C T) : Like n C B := fun i hi => by
  rcases h.same i hi with h | ⟨_, _, h1, h2, h3⟩
  · exact .inl (by rw [h]; rfl)
  · exact .inr (.inr ⟨h1, h2, h3⟩)

theorem outs_free {n : Nat} {B : Nat → Blk} (hR : Right n B) {i : Nat} (hi : i < n) (h0 : (B i).refs = 0) : outs n B i = 0 := by
  have := hR.held i hi
  simp at this
  unfold outs
  omega

theorem made_small {n : Nat} {B : Nat → Blk} {K : Blk} {i : Nat} (hc : ∀ k, k < n → (B k).refs ≤ 999000) (hF : Form n B { K with refs := 1 }) : ∀ k, k < n → (made B K i k).refs ≤ 1000000 := by
  intro k hk
  by_cases e : k = i
  · subst e; rw [made_same]; show (1 : Int) ≤ 1000000; omega
  · rw [made_other _ _ e]
    have h1 := hc k hk
    have h2 : K.kids.count ((k : Int) + 1) ≤ K.kids.length := List.count_le_length
    have h3 : K.kids.length ≤ 4 := hF.few
    show (B k).refs + _ ≤ _
    omega

/-- what is made and let go was never there -/
theorem back_make {n : Nat} {B C : Nat → Blk} {K : Blk} {i : Nat} (hR : Right n B) (hF : Form n B { K with refs := 1 }) (hi : i < n) (h0 : (B i).refs = 0) (hC : Right n C) (hD : Fell n (made B K i) C [(i : Int) + 1]) : ∀ k, k < n → C k = B k := by
  refine same_of hC hR (fun k hk => ?_) fun k hk => ?_
  · rcases fell_like hD k hk with h | h | ⟨h1, h2, h3⟩
    · exact .inl h
    · by_cases e : k = i
      · subst e; exact .inr (.inl h0)
      · rw [made_other _ _ e] at h
        have h1 := (hR.one k hk).bounds
        have h2 : (B k).refs + (K.kids.count ((k : Int) + 1) : Int) = 0 := h
        exact .inr (.inl (by omega))
    · by_cases e : k = i
      · subst e; exact .inr (.inl h0)
      · rw [made_other _ _ e] at h1 h2 h3
        exact .inr (.inr ⟨h1, h2, h3⟩)
  · rw [hD.outs k hk, outs_made hR hF hi h0 k hk]
    by_cases e : k = i
    · subst e
      rw [if_pos rfl, outs_free hR hk h0, List.count_cons_self]
      simp
    · rw [if_neg e, List.count_cons_of_ne (by omega)]
      simp

theorem sumTo_one' {f g : Nat → Nat} {i : Nat} : ∀ {n : Nat}, i < n → (∀ j, j < n → j ≠ i → f j = g j) → sumTo f n + g i = sumTo g n + f i
  | n + 1, hi, h => by
    simp only [sumTo]
    by_cases e : i = n
    · subst e
      rw [sumTo_congr (f := f) (g := g) (fun j hj => h j (by omega) (by omega))]; omega
    · have := sumTo_one' (f := f) (g := g) (n := n) (i := i) (by omega) (fun j hj => h j (by omega))
      rw [h n (by omega) (by omega)]; omega

theorem used_made {n : Nat} {B : Nat → Blk} {K : Blk} {i : Nat} (hR : Right n B) (hF : Form n B { K with refs := 1 }) (hi : i < n) (h0 : (B i).refs = 0) : usedTo (made B K i) n = usedTo B n + 1 := by
  have := sumTo_one' (f := fun k => if 0 < (made B K i k).refs then 1 else 0) (g := fun k => if 0 < (B k).refs then 1 else 0) (i := i) hi (fun j hj hne => by
    rw [made_other _ _ hne]
    show (if 0 < (B j).refs + (K.kids.count ((j : Int) + 1) : Int) then 1 else 0) = _
    have hb := (hR.one j hj).bounds
    by_cases e : (B j).refs = 0
    · rw [kid_free hF e, e]; simp
    · rw [if_pos (by omega), if_pos (by omega)])
  have e1 : (made B K i i).refs = 1 := by rw [made_same]
  simp only [e1, h0] at this
  unfold usedTo
  simpa using this

theorem kept_same {B : Nat → Blk} {i : Nat} : keptB B ((i : Int) + 1) i = { B i with refs := (B i).refs + 1 } := by
  unfold keptB
  rw [show ((i : Int) + 1 - 1).toNat = i by omega, upd_same]
theorem kept_other {B : Nat → Blk} {i k : Nat} (h : k ≠ i) : keptB B ((i : Int) + 1) k = B k := by
  unfold keptB
  rw [show ((i : Int) + 1 - 1).toNat = i by omega, upd_other _ _ _ _ h]
theorem among_kept {n : Nat} {B : Nat → Blk} {i : Nat} (x : Int) : among n (keptB B ((i : Int) + 1)) x = among n B x := among_congr x fun k _ => by
  by_cases e : k = i
  · subst e; rw [kept_same]
  · rw [kept_other e]
theorem outs_kept {n : Nat} {B : Nat → Blk} {i : Nat} (k : Nat) : outs n (keptB B ((i : Int) + 1)) k = if k = i then outs n B k + 1 else outs n B k := by
  unfold outs
  rw [among_kept]
  by_cases e : k = i
  · subst e; rw [kept_same, if_pos rfl]; show (B k).refs + 1 - _ = _; omega
  · rw [kept_other e, if_neg e]
theorem right_kept {n : Nat} {B : Nat → Blk} {i : Nat} (hR : Right n B) (hi : i < n) (h0 : (B i).refs ≠ 0) (hm : (B i).refs ≤ 999000) : Right n (keptB B ((i : Int) + 1)) := by
  have hth : ∀ x, There n B x → There n (keptB B ((i : Int) + 1)) x ∧ (keptB B ((i : Int) + 1) (x - 1).toNat).level = (B (x - 1).toNat).level := by
    intro x ⟨x1, x2, x3⟩
    by_cases e : (x - 1).toNat = i
    · have hb := (hR.one i hi).bounds
      rw [e, kept_same]
      refine ⟨⟨x1, x2, ?_⟩, rfl⟩
      rw [e, kept_same]
      show (B i).refs + 1 ≠ 0
      omega
    · rw [kept_other e]
      exact ⟨⟨x1, x2, by rw [kept_other e]; exact x3⟩, rfl⟩
  refine ⟨hR.small, fun k hk => ?_, fun k hk => ?_, by simp⟩
  · by_cases e : k = i
    · subst e
      rw [kept_same]
      have hb := (hR.one k hk).bounds
      exact (hR.one k hk).turn rfl rfl rfl (.inr ⟨h0, by show 1 ≤ (B k).refs + 1; omega, by show (B k).refs + 1 ≤ 1000000; omega⟩) fun x _ => hth x
    · rw [kept_other e]
      exact (hR.one k hk).turn rfl rfl rfl (.inl rfl) fun x _ => hth x
  · rw [among_kept]
    have h1 := hR.held k hk
    simp at h1 ⊢
    by_cases e : k = i
    · subst e; rw [kept_same]; show _ ≤ (B k).refs + 1; omega
    · rw [kept_other e]; exact h1
/-- what is held and let go was never held -/
theorem back_keep {n : Nat} {B C : Nat → Blk} {i : Nat} (hR : Right n B) (hi : i < n) (h0 : (B i).refs ≠ 0) (hC : Right n C) (hD : Fell n (keptB B ((i : Int) + 1)) C [(i : Int) + 1]) : ∀ k, k < n → C k = B k := by
  refine same_of hC hR (fun k hk => ?_) fun k hk => ?_
  · rcases fell_like hD k hk with h | h | ⟨h1, h2, h3⟩
    · exact .inl h
    · by_cases e : k = i
      · subst e
        rw [kept_same] at h
        have hb := (hR.one k hk).bounds
        have h2 : (B k).refs + 1 = 0 := h
        omega
      · rw [kept_other e] at h; exact .inr (.inl h)
    · by_cases e : k = i
      · subst e; rw [kept_same] at h1 h2 h3; exact .inr (.inr ⟨h1, h2, h3⟩)
      · rw [kept_other e] at h1 h2 h3; exact .inr (.inr ⟨h1, h2, h3⟩)
  · rw [hD.outs k hk, outs_kept]
    by_cases e : k = i
    · subst e; rw [if_pos rfl, List.count_cons_self]; simp
    · rw [if_neg e, List.count_cons_of_ne (by omega)]; simp
theorem drop_kept {n : Nat} {B : Nat → Blk} {i : Nat} (hR : Right n B) (hi : i < n) (h0 : (B i).refs ≠ 0) (hm : (B i).refs ≤ 999000) : Droppable n (keptB B ((i : Int) + 1)) ((i : Int) + 1) := by
  refine droppable_of (right_kept hR hi h0 hm) hi ?_
  rw [outs_kept, if_pos rfl]
  have := hR.held i hi
  simp at this
  unfold outs
  omega

/-- behind a Drop what is still held from outside is there, and all that is below -/
theorem roots_behind {n : Nat} {B C : Nat → Blk} {a : Int} {l : List Int} (hC : Right n C) (hD : Fell n B C [a]) (hl : ∀ x ∈ l, ∃ k, k < n ∧ x = (k : Int) + 1 ∧ 0 < outs n B k - (([a] : List Int).count ((k : Int) + 1) : Int)) : RootsOk n C l := by
  intro r hr
  obtain ⟨k, hk, rfl, h⟩ := hl r hr
  refine .inr ⟨by omega, by omega, ?_⟩
  rw [show ((k : Int) + 1 - 1).toNat = k by omega]
  have h1 := hD.outs k hk
  unfold outs at h1 h
  omega
theorem fell_content {n : Nat} {B C : Nat → Blk} {T : List Int} (hD : Fell n B C T) {x : Int} (hx : There n C x) : (C (x - 1).toNat).level = (B (x - 1).toNat).level ∧ (C (x - 1).toNat).kids = (B (x - 1).toNat).kids ∧ (C (x - 1).toNat).bytes = (B (x - 1).toNat).bytes := by
  rcases hD.same _ (ix hx.1 hx.2.1).1 with h | ⟨_, _, h⟩
  · exact absurd (by rw [h]; rfl) hx.2.2
  · exact h
theorem clo_behind {n : Nat} {B C : Nat → Blk} {T : List Int} {l : List Int} (hC : Right n C) (hD : Fell n B C T) (hl : RootsOk n C l) (x : Int) : (Clo B l x ↔ Clo C l x) := by
  constructor
  · intro h
    refine (h (fun y => There n C y ∧ Clo C l y) (fun r hr h0 => ⟨(hl r hr).resolve_left h0, Clo.root hr h0⟩) ?_).2
    rintro y ⟨hy, hc⟩ k hk h0
    rw [← (fell_content hD hy).2.1] at hk
    refine ⟨?_, hc.kid hk h0⟩
    rcases (hC.one _ (ix hy.1 hy.2.1).1).kids k hk with h | ⟨h, _⟩
    · exact absurd h h0
    · exact h
  · intro h
    refine (h (fun y => There n C y ∧ Clo B l y) (fun r hr h0 => ⟨(hl r hr).resolve_left h0, Clo.root hr h0⟩) ?_).2
    rintro y ⟨hy, hc⟩ k hk h0
    refine ⟨?_, hc.kid (by rw [← (fell_content hD hy).2.1]; exact hk) h0⟩
    rcases (hC.one _ (ix hy.1 hy.2.1).1).kids k hk with h | ⟨h, _⟩
    · exact absurd h h0
    · exact h
theorem rising_eq : ∀ {L M : List Int}, Rising L → Rising M → (∀ x, x ∈ L ↔ x ∈ M) → L = M
  | [], [], _, _, _ => rfl
  | [], y :: M, _, _, h => absurd ((h y).2 (by simp)) (by simp)
  | x :: L, [], _, _, h => absurd ((h x).1 (by simp)) (by simp)
  | x :: L, y :: M, hL, hM, h => by
    unfold Rising at hL hM
    rw [List.pairwise_cons] at hL hM
    have e : x = y := by
      have h1 := (h x).1 (by simp)
      have h2 := (h y).2 (by simp)
      rcases List.mem_cons.1 h1 with h1 | h1
      · exact h1
      · rcases List.mem_cons.1 h2 with h2 | h2
        · exact h2.symm
        · have := hM.1 x h1
          have := hL.1 y h2
          omega
    subst e
    rw [rising_eq (L := L) (M := M) hL.2 hM.2 (fun z => ?_)]
    constructor
    · intro hz
      rcases List.mem_cons.1 ((h z).1 (List.mem_cons_of_mem _ hz)) with h1 | h1
      · have := hL.1 z hz; omega
      · exact h1
    · intro hz
      rcases List.mem_cons.1 ((h z).2 (List.mem_cons_of_mem _ hz)) with h1 | h1
      · have := hM.1 z hz; omega
      · exact h1
end Go.Proofs.YtmpedoklljhdbaaGreat
