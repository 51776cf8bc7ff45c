/-
  SetAroundWalk in one text. Nothing here is trusted.
-/
import Derived.Test.YthnhdojppfedmaaGreatPart32
import Derived.Test.YthnhdojppfedmaaGreatPart33
set_option linter.unusedVariables false
namespace Go.Proofs.YthnhdojppfedmaaGreat
open Go.RowKit

theorem RetDid.uni {w w' : World} {n : Nat} {B : Nat → Blk} {key : Int} {x : SetE} {a : AskE} {cc : Int} {e : Ending} (h : RetDid w n B key x a cc e w') : ∃ (ga : Option Addr) (gn gc : Nat) (u : SetV) (e' : Int), e = .returned (.tuple #[.agg #[.slice ga gn gc], .agg #[.string u.name, .slice u.fa u.fn u.fc, .slice u.sa u.sn u.sc], .int .i64 e']) ∧ Below w.heap.size w w' ∧ (e' ≠ 0 → SetOk n B key x → HeldR n B (rootsX x) → ChgNo n B key x a) ∧
    (e' = 0 → gn = n ∧ ∃ D y, SetOk n B key x ∧ HeldR n B (rootsX x) ∧ Did n B key x a cc D y ∧ StoreAt w' ga n D ∧ SetAt (fun _ => True) w' u y) := by
  obtain ⟨b, ⟨e', rfl, he, hno⟩ | ⟨g, D, v, y, rfl, hx, hh, hd, ⟨_, hO⟩, hS⟩⟩ := h
  · exact ⟨none, 0, 0, ⟨ByteArray.mk #[], none, 0, 0, none, 0, 0⟩, e', rfl, b, fun _ => hno, fun h => absurd h he⟩
  · exact ⟨_, n, n, v, 0, rfl, b, fun h => absurd rfl h, fun _ => ⟨rfl, D, y, hx, hh, hd, hO.store, hS.weaken (fun _ _ _ => trivial)⟩⟩
/-- the law's own boxes: the store and the set that were handed in -/
structure AB (W wr : World) (sa : Option Addr) (n sc : Nat) (v : SetV) : Prop where
  bel : Below W.heap.size W wr
  s : CellsAt wr W.heap.size #[.slice sa n sc] 24
  x : CellsAt wr (W.heap.size + 1) #[.string v.name, .slice v.fa v.fn v.fc, .slice v.sa v.sn v.sc] 28
theorem AB.below {W wr w' : World} {sa : Option Addr} {n sc : Nat} {v : SetV} (h : AB W wr sa n sc v) (b : Below wr.heap.size wr w') : AB W w' sa n sc v := ⟨Below.tr h.bel b, h.s.below b, h.x.below b⟩
/-- the asks of the laws -/
abbrev aRen (nm to : ByteArray) : AskE := ⟨6, nO, nm, to, 0, 0, []⟩
abbrev aSnap (to : ByteArray) : AskE := ⟨7, nO, nO, to, 0, 0, []⟩
abbrev aForg (to : ByteArray) : AskE := ⟨8, nO, nO, to, 0, 0, []⟩
abbrev aBack (to : ByteArray) : AskE := ⟨9, nO, nO, to, 0, 0, []⟩
theorem nO_small : nO.size ≤ maxLen := by decide
theorem ok_ren {nm to : ByteArray} (h1 : nm.size ≤ maxLen) (h2 : to.size ≤ maxLen) : (aRen nm to).ok := ⟨⟨nO_small, h1, h2⟩, by simp, by simp, by simp⟩
theorem ok_snap {to : ByteArray} (h2 : to.size ≤ maxLen) : (aSnap to).ok := ⟨⟨nO_small, nO_small, h2⟩, by simp, by simp, by simp⟩
theorem ok_forg {to : ByteArray} (h2 : to.size ≤ maxLen) : (aForg to).ok := ⟨⟨nO_small, nO_small, h2⟩, by simp, by simp, by simp⟩
theorem ok_back {to : ByteArray} (h2 : to.size ≤ maxLen) : (aBack to).ok := ⟨⟨nO_small, nO_small, h2⟩, by simp, by simp, by simp⟩
theorem more_ren (nm to : ByteArray) : moreOf (aRen nm to) = 0 := by simp [moreOf]
theorem left_ren (nm to : ByteArray) : leftOf (aRen nm to) = 6 := by simp [leftOf]
theorem more_snap (to : ByteArray) : moreOf (aSnap to) = 0 := by simp [moreOf]
theorem left_snap (to : ByteArray) : leftOf (aSnap to) = 6 := by simp [leftOf]
theorem more_forg (to : ByteArray) : moreOf (aForg to) = 0 := by simp [moreOf]
theorem right_lens {n : Nat} {B : Nat → Blk} (h : Right n B) : ∀ i, i < n → (B i).kids.length ≤ 4 ∧ (B i).bytes.length ≤ 4 := fun i hi => ⟨(h.one i hi).few, (h.one i hi).few2⟩

set_option maxHeartbeats 8000000 in
set_option maxRecDepth 100000 in
theorem setAround_any (sa : Option Addr) (n sc : Nat) (B : Nat → Blk) (key : Int) (v : SetV) (x : SetE) (nm to : ByteArray) (w : World) (hnm : n ≤ 9223372036854775807) (hs : StoreAt w sa n B) (hX : SetAt (fun _ => True) w v x) (h1 : nm.size ≤ maxLen) (h2 : to.size ≤ maxLen) :
    Calls Tryz.prog 4 #[.agg #[.slice sa n sc], .int .i64 key, v.val, .string nm, .string to] w fun e w' => e = .returned (.bool true) ∧ Below w.heap.size w w' := by
  unfold SetV.val
  have b0 := below_two w (.cells #[.slice sa n sc] 24) (.cells #[.string v.name, .slice v.fa v.fn v.fc, .slice v.sa v.sn v.sc] 28)
  have A0 : AB w ((w.alloc (.cells #[.slice sa n sc] 24)).alloc (.cells #[.string v.name, .slice v.fa v.fn v.fc, .slice v.sa v.sn v.sc] 28)) sa n sc v := ⟨b0, (cellsAt_alloc w _ _).below (below_alloc _ _), cellsAt_alloc2 w (.cells #[.slice sa n sc] 24) _ _⟩
  replace A0 := hid A0
  replace hs := hid hs
  replace hX := hid hX
  clear b0
  go_enter Tryz.func4, Tryz.ntmps4
  go_wp2_with fail
  generalize (w.alloc (.cells #[.slice sa n sc] 24)).alloc (.cells #[.string v.name, .slice v.fa v.fn v.fc, .slice v.sa v.sn v.sc] 28) = w0 at *
  refine (crowded_any sa n sc B w0 hnm (hs.out.below A0.out.bel)).mono ?_
  rintro e w1 ⟨⟨t, rfl, hcr⟩, b1⟩
  replace A0 := hid (A0.out.below b1)
  clear b1
  cases t
  case true =>
    clear hcr
    go_wp2_with fail
    go_ret
    exact ⟨rfl, A0.out.bel⟩
  have hc : Hid (∀ k, k < n → (B k).refs ≤ 999000) := hid (hcr rfl)
  clear hcr
  have s0 := A0.out.s.cell 0
  have x0' := A0.out.x.cell 0
  have x1' := A0.out.x.cell 1
  have x2' := A0.out.x.cell 2
  simp at s0 x0' x1' x2'
  go_wp2_with fail
  refine (do_any (fun _ => True) sa n sc B key v x (aRen nm to) none 0 0 999000 w1 (hs.out.below A0.out.bel) (hX.out.below A0.out.bel) (nums_nil _) (ok_ren h1 h2) (by omega) hc.out (by rw [more_ren]; omega)).mono ?_
  rintro e w2 hD
  obtain ⟨ga, gn, gc, u, e', rfl, bD, hno, hyes⟩ := hD.uni
  replace hno := hid hno
  replace hyes := hid hyes
  replace A0 := hid (A0.out.below bD)
  clear hD bD s0 x0' x1' x2'
  go_upto_if 36 with fail
  have bA := below_two w2 (.cells #[.slice ga gn gc] 24) (.cells #[.string u.name, .slice u.fa u.fn u.fc, .slice u.sa u.sn u.sc] 28)
  have k11 : CellsAt _ w2.heap.size #[.slice ga gn gc] 24 := (cellsAt_alloc w2 _ _).below (below_alloc _ (.cells #[.string u.name, .slice u.fa u.fn u.fc, .slice u.sa u.sn u.sc] 28))
  have k12 := cellsAt_alloc2 w2 (.cells #[.slice ga gn gc] 24) #[.string u.name, .slice u.fa u.fn u.fc, .slice u.sa u.sn u.sc] 28
  replace A0 := hid (A0.out.below bA)
  go_cut [11, 12, 13, 14, 15, 16] from 24 (fun _ _ _ _ _ _ wc => AB w wc sa n sc v)
  case first =>
    by_cases h0 : e' = 0
    case neg =>
      have h0' : (e' == 0) = false := by simp [h0]
      replace k11 := hid k11
      replace k12 := hid k12
      go_wp2_with fail
      go_meet
      exact A0.out
    subst h0
    obtain ⟨rfl, D, y, hx, hh, hd, hSt, hSy⟩ := hyes.out rfl
    have hA := hd.after hx hh bytes_nil hc.out (by rw [more_ren]; omega)
    obtain ⟨hcan, hzx, hlen, hents⟩ := rename_again (b := aRen to nm) hx.shape (plain_rename (hd.plain (by simp) (by simp)).1 rfl) rfl rfl
    have hcD : Hid (∀ k, k < gn → (D k).refs ≤ 999006) := hid (fun k hk => by have := hA.2 k hk; rw [left_ren] at this; omega)
    have hlu : y.files.length = u.fn := hSy.files.1
    have hlv : x.files.length = v.fn := hX.out.files.1
    have hfuv : ((u.fn : Int) != (v.fn : Int)) = false := by simp; omega
    replace hSt := hid (hSt.below bA)
    replace hSy := hid (hSy.below bA)
    replace hA := hid hA
    replace hcan := hid hcan
    replace hzx := hid hzx
    replace hents := hid hents
    replace hd := hid hd
    have hsh := hid hx.shape
    have hn4 := hx.right.small
    have hl4 := hid (right_lens hx.right)
    have hR := hid hx.right
    clear hx hh hlen hlu hlv hno hyes bA
    generalize (w2.alloc (.cells #[.slice ga gn gc] 24)).alloc (.cells #[.string u.name, .slice u.fa u.fn u.fc, .slice u.sa u.sn u.sc] 28) = w3 at *
    have m0 := k11.cell 0
    have p0 := k12.cell 0
    have p1 := k12.cell 1
    have p2 := k12.cell 2
    simp at m0 p0 p1 p2
    replace k11 := hid k11
    replace k12 := hid k12
    go_wp2_with fail
    refine (do_any (fun _ => True) ga gn gc D key u y (aRen to nm) none 0 0 999006 w3 hSt.out hSy.out (nums_nil _) (ok_ren h2 h1) (by omega) hcD.out (by rw [more_ren]; omega)).mono ?_
    rintro e w4 hD2
    obtain ⟨ga2, gn2, gc2, u2, e2, rfl, bD2, hno2, hyes2⟩ := hD2.uni
    have he2 : e2 = 0 := Classical.byContradiction fun h => (hno2 h hA.out.1.ok hA.out.1.held).2.1 rfl hcan.out
    subst he2
    obtain ⟨rfl, E, z, _, _, hd2, hSt2, hSz⟩ := hyes2 rfl
    obtain rfl := hzx.out z (plain_rename (hd2.plain (by simp) (by simp)).1 rfl).2
    have hEB := did_around hR.out hd.out hA.out.1.ok hd2 (fun e he => by
      obtain ⟨e3, he3, h3, h4⟩ := hents.out e he
      rw [← h3, ← h4]
      exact hA.out.1.ok.ents e3 he3) (by simp) (by simp) (by simp) (by simp)
    have bA := below_two w4 (.cells #[.slice ga2 gn2 gc2] 24) (.cells #[.string u2.name, .slice u2.fa u2.fn u2.fc, .slice u2.sa u2.sn u2.sc] 28)
    have k14 : CellsAt _ w4.heap.size #[.slice ga2 gn2 gc2] 24 := (cellsAt_alloc w4 _ _).below (below_alloc _ (.cells #[.string u2.name, .slice u2.fa u2.fn u2.fc, .slice u2.sa u2.sn u2.sc] 28))
    have k15 := cellsAt_alloc2 w4 (.cells #[.slice ga2 gn2 gc2] 24) #[.string u2.name, .slice u2.fa u2.fn u2.fc, .slice u2.sa u2.sn u2.sc] 28
    have hS4 := hid ((store_congr hSt2 hEB).below bA)
    have hZ4 := hid (hSz.below bA)
    replace A0 := hid ((A0.out.below bD2).below bA)
    replace k12 := hid ((k12.out.below bD2).below bA)
    have x0' := A0.out.x.cell 0
    have x1' := A0.out.x.cell 1
    have x2' := A0.out.x.cell 2
    simp at x0' x1' x2'
    replace k14 := hid k14
    replace k15 := hid k15
    clear m0 p0 p1 p2 hD2 hno2 hyes2 hd2 hSt2 hSz hEB bD2 bA hSt hSy hA hcan hzx hents hd hcD k11
    go_upto_region 6 with fail
    generalize (w4.alloc (.cells #[.slice ga2 gn2 gc2] 24)).alloc (.cells #[.string u2.name, .slice u2.fa u2.fn u2.fc, .slice u2.sa u2.sn u2.sc] 28) = w5 at *
    have q0 := k15.out.cell 0
    have q1 := k15.out.cell 1
    have q2 := k15.out.cell 2
    simp at q0 q1 q2
    go_wp2_with fail
    refine (sameSet_true (fun _ => True) (fun _ => True) u2 v z w5 hsh.out hZ4.out (hX.out.below A0.out.bel)).mono ?_
    rintro e w6 ⟨rfl, b6⟩
    replace A0 := hid (A0.out.below b6)
    have s0 := A0.out.s.cell 0
    have r0 := (k14.out.below b6).cell 0
    simp at s0 r0
    clear x0' x1' x2' q0 q1 q2
    go_wp2_with fail
    refine (storeSame_true ga2 sa gn2 gc2 sc B w6 hn4 hl4.out (hS4.out.below b6) (hs.out.below A0.out.bel)).mono ?_
    rintro e w7 ⟨rfl, b7⟩
    replace A0 := hid (A0.out.below b7)
    have p1 := ((k12.out.below b6).below b7).cell 1
    have x1' := A0.out.x.cell 1
    simp at p1 x1'
    clear s0 r0 b6 b7 hS4 hZ4 k14 k15 k12
    go_wp2_with fail
    go_meet
    exact A0.out
  case rest =>
    have A1 := hid hcut
    clear hcut A0 k11 k12 bA hno hyes
    have s0 := A1.out.s.cell 0
    have x0' := A1.out.x.cell 0
    have x1' := A1.out.x.cell 1
    have x2' := A1.out.x.cell 2
    simp at s0 x0' x1' x2'
    go_wp2_with fail
    refine (do_any (fun _ => True) sa n sc B key v x (aSnap to) none 0 0 999000 _ (hs.out.below A1.out.bel) (hX.out.below A1.out.bel) (nums_nil _) (ok_snap h2) (by omega) hc.out (by rw [more_snap]; omega)).mono ?_
    rintro e w2 hD
    obtain ⟨ga, gn, gc, u, e', rfl, bD, hno, hyes⟩ := hD.uni
    have bA := below_two w2 (.cells #[.slice ga gn gc] 24) (.cells #[.string u.name, .slice u.fa u.fn u.fc, .slice u.sa u.sn u.sc] 28)
    have k17 : CellsAt _ w2.heap.size #[.slice ga gn gc] 24 := (cellsAt_alloc w2 _ _).below (below_alloc _ (.cells #[.string u.name, .slice u.fa u.fn u.fc, .slice u.sa u.sn u.sc] 28))
    have k18 := cellsAt_alloc2 w2 (.cells #[.slice ga gn gc] 24) #[.string u.name, .slice u.fa u.fn u.fc, .slice u.sa u.sn u.sc] 28
    replace A1 := hid ((A1.out.below bD).below bA)
    replace hno := hid hno
    replace hyes := hid hyes
    replace k17 := hid k17
    replace k18 := hid k18
    replace bA := hid bA
    clear hD bD s0 x0' x1' x2'
    go_wp2_with fail
    generalize (w2.alloc (.cells #[.slice ga gn gc] 24)).alloc (.cells #[.string u.name, .slice u.fa u.fn u.fc, .slice u.sa u.sn u.sc] 28) = w3 at *
    refine (gathered_any w3).mono ?_
    rintro e w4 ⟨rfl, b4⟩
    replace A1 := hid (A1.out.below b4)
    by_cases h0 : e' = 0
    case neg =>
      have h0' : (e' == 0) = false := by simp [h0]
      go_wp2_with fail
      refine (gathered_any w4).mono ?_
      rintro e w5 ⟨rfl, b5⟩
      replace A1 := hid (A1.out.below b5)
      clear b5 b4
      go_wp2_with fail
      go_ret
      exact ⟨rfl, A1.out.bel⟩
    subst h0
    obtain ⟨rfl, D, y, hx, hh, hd, hSt, hSy⟩ := hyes.out rfl
    have hA := hd.after hx hh bytes_nil hc.out (by rw [more_snap]; omega)
    obtain ⟨hcan, hzx, hents, _, _⟩ := snap_forgot (b := aForg to) hx.shape (plain_snap (hd.plain (by simp) (by simp)).1 rfl) rfl
    have hcD : Hid (∀ k, k < gn → (D k).refs ≤ 999006) := hid (fun k hk => by have := hA.2 k hk; rw [left_snap] at this; omega)
    replace hSt := hid ((hSt.below bA.out).below b4)
    replace hSy := hid ((hSy.below bA.out).below b4)
    replace hA := hid hA
    replace hcan := hid hcan
    replace hzx := hid hzx
    replace hents := hid hents
    replace hd := hid hd
    have hsh := hid hx.shape
    have hn4 := hx.right.small
    have hl4 := hid (right_lens hx.right)
    have hR := hid hx.right
    have m0 := (k17.out.below b4).cell 0
    have p0 := (k18.out.below b4).cell 0
    have p1 := (k18.out.below b4).cell 1
    have p2 := (k18.out.below b4).cell 2
    simp at m0 p0 p1 p2
    clear hx hh hno hyes bA k17 k18 b4
    go_wp2_with fail
    refine (do_any (fun _ => True) ga gn gc D key u y (aForg to) none 0 0 999006 w4 hSt.out hSy.out (nums_nil _) (ok_forg h2) (by omega) hcD.out (by rw [more_forg]; omega)).mono ?_
    rintro e w5 hD2
    obtain ⟨ga2, gn2, gc2, u2, e2, rfl, bD2, hno2, hyes2⟩ := hD2.uni
    have he2 : e2 = 0 := Classical.byContradiction fun h => (hno2 h hA.out.1.ok hA.out.1.held).2.2.2.1 rfl hcan.out
    subst he2
    obtain ⟨rfl, E, z, _, _, hd2, hSt2, hSz⟩ := hyes2 rfl
    obtain rfl := hzx.out z (plain_forget (hd2.plain (by simp) (by simp)).1 rfl).2
    have hEB := did_around hR.out hd.out hA.out.1.ok hd2 (fun e he => hA.out.1.ok.ents e (hents.out e he)) (by simp) (by simp) (by simp) (by simp)
    have bA := below_two w5 (.cells #[.slice ga2 gn2 gc2] 24) (.cells #[.string u2.name, .slice u2.fa u2.fn u2.fc, .slice u2.sa u2.sn u2.sc] 28)
    have k20 : CellsAt _ w5.heap.size #[.slice ga2 gn2 gc2] 24 := (cellsAt_alloc w5 _ _).below (below_alloc _ (.cells #[.string u2.name, .slice u2.fa u2.fn u2.fc, .slice u2.sa u2.sn u2.sc] 28))
    have k21 := cellsAt_alloc2 w5 (.cells #[.slice ga2 gn2 gc2] 24) #[.string u2.name, .slice u2.fa u2.fn u2.fc, .slice u2.sa u2.sn u2.sc] 28
    have hS4 := hid ((store_congr hSt2 hEB).below bA)
    have hZ4 := hid (hSz.below bA)
    replace A1 := hid ((A1.out.below bD2).below bA)
    have x0' := A1.out.x.cell 0
    have x1' := A1.out.x.cell 1
    have x2' := A1.out.x.cell 2
    simp at x0' x1' x2'
    replace k20 := hid k20
    replace k21 := hid k21
    clear m0 p0 p1 p2 hD2 hno2 hyes2 hd2 hSt2 hSz hEB bD2 bA hSt hSy hA hcan hzx hents hd hcD
    go_upto_region 12 with fail
    generalize (w5.alloc (.cells #[.slice ga2 gn2 gc2] 24)).alloc (.cells #[.string u2.name, .slice u2.fa u2.fn u2.fc, .slice u2.sa u2.sn u2.sc] 28) = w6 at *
    have q0 := k21.out.cell 0
    have q1 := k21.out.cell 1
    have q2 := k21.out.cell 2
    simp at q0 q1 q2
    go_wp2_with fail
    refine (sameSet_true (fun _ => True) (fun _ => True) u2 v z w6 hsh.out hZ4.out (hX.out.below A1.out.bel)).mono ?_
    rintro e w7 ⟨rfl, b7⟩
    replace A1 := hid (A1.out.below b7)
    have s0 := A1.out.s.cell 0
    have r0 := (k20.out.below b7).cell 0
    simp at s0 r0
    clear x0' x1' x2' q0 q1 q2
    go_wp2_with fail
    refine (storeSame_true ga2 sa gn2 gc2 sc B w7 hn4 hl4.out (hS4.out.below b7) (hs.out.below A1.out.bel)).mono ?_
    rintro e w8 ⟨rfl, b8⟩
    replace A1 := hid (A1.out.below b8)
    clear s0 r0 b7 b8 hS4 hZ4 k20 k21
    go_wp2_with fail
    go_ret
    exact ⟨rfl, A1.out.bel⟩
end Go.Proofs.YthnhdojppfedmaaGreat
