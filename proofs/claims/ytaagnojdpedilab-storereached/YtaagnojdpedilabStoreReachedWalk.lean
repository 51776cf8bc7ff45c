/-
  The walk of the law StoreReached out of contracts. Nothing here is trusted.
-/
import Derived.Test.YtaagnojdpedilabConcat1
import Derived.Test.YtaagnojdpedilabStoreBackWalk
import Derived.Deep.RegionHeld3
set_option linter.unusedVariables false
namespace Go.Proofs.Ytaagnojdpedilab
open Go.RowKit

/-- what was reached from l lies in memory -/
def Found (w : World) (n : Nat) (B : Nat → Blk) (l : List Int) (la : Option Addr) (ln : Nat) : Prop := Reachable n B l ∧ ∃ L, NumsAt (fun _ => True) .i64 w la ln L ∧ Rising L ∧ ∀ x, x ∈ L ↔ Clo B l x
theorem Found.below {w w' : World} {n : Nat} {B : Nat → Blk} {l : List Int} {la : Option Addr} {ln : Nat} (h : Found w n B l la ln) (b : Below w.heap.size w w') : Found w' n B l la ln := by
  obtain ⟨h1, L, h2, h3⟩ := h
  exact ⟨h1, L, h2.below b, h3⟩
/-- what Reach answers, told in one -/
theorem RetR.uni {base : Nat} {e : Ending} {w : World} {n : Nat} {B : Nat → Blk} {l : List Int} (h : RetR base e w n B l) :
    ∃ (la : Option Addr) (ln lc : Nat) (e' : Int), e = .returned (.tuple #[.slice la ln lc, .int .i64 e']) ∧ (Reachable n B l → e' = 0) ∧ (e' = 0 → Found w n B l la ln) := by
  rcases h with ⟨e', rfl, he, hno⟩ | ⟨hy, v, L, rfl, hL, hr, hm⟩
  · exact ⟨none, 0, 0, e', rfl, fun h => absurd h hno, fun h => absurd h he⟩
  · obtain ⟨la, lc, rfl, _, hN⟩ := numsAt_own hL.2 hL.1
    exact ⟨la, _, lc, 0, rfl, fun _ => rfl, fun _ => ⟨hy, L, hN.weaken (fun _ _ _ => trivial), hr, hm⟩⟩

theorem rising_short {n : Nat} {L : List Int} (hL : Rising L) (h : ∀ x ∈ L, 1 ≤ x ∧ x ≤ n) : L.length ≤ n := by
  have e : L = heldL (fun k => decide (((k : Int) + 1) ∈ L)) n := rising_eq hL (heldL_rising _ _) (fun x => by
    rw [mem_heldL]
    constructor
    · intro hx
      have hb := h x hx
      exact ⟨(x - 1).toNat, by omega, by rw [show (((x - 1).toNat : Int) + 1) = x by omega]; exact decide_eq_true hx, by omega⟩
    · rintro ⟨k, _, hp, rfl⟩
      exact of_decide_eq_true hp)
  rw [e]
  exact heldL_length _ _

theorem held_there {n : Nat} {B : Nat → Blk} {k : Nat} (hk : k < n) (h : 0 < outs n B k) : There n B ((k : Int) + 1) := by
  refine ⟨by omega, by omega, ?_⟩
  rw [show ((k : Int) + 1 - 1).toNat = k by omega]
  unfold outs at h
  omega

/-- what stands behind the second Reach -/
def Second (W wc : World) (a : Option Addr) (n c : Nat) (B : Nat → Blk) (rs l : List Int) (aa : Option Addr) (an : Nat) (e1 : Int) (u v : Value) : Prop :=
  ∃ (pb : Nat) (ba : Option Addr) (bn bc : Nat) (e2 : Int), u = .int .i64 e2 ∧ v = .pointer (some ⟨pb, 0, none⟩) ∧ wc.cell? ⟨pb, 0, none⟩ = some (.slice ba bn bc) ∧ pb < wc.heap.size ∧ BE W wc a n c ∧ (e1 = 0 → Found wc n B rs aa an) ∧ (e2 = 0 → Found wc n B l ba bn)
theorem NumsAt.apart {w : World} {a : Option Addr} {n : Nat} {l : List Int} {pb : Nat} {x : Option Addr} {y z : Nat} {t : TypeId} (h : NumsAt (fun _ => True) .i64 w a n l) (k : CellsAt w pb #[.slice x y z] t) : NumsAt (fun b => b ≠ pb) .i64 w a n l := by
  refine ⟨h.1, h.2.1, fun hn => ?_⟩
  obtain ⟨b, off, rfl, hlt, _, hc⟩ := h.2.2 hn
  refine ⟨b, off, rfl, hlt, fun e => ?_, hc⟩
  subst e
  have h1 := hc 0 hn
  rw [k.cell (off + 0)] at h1
  cases off <;> simp at h1
theorem Found.set {w : World} {n : Nat} {B : Nat → Blk} {l : List Int} {la : Option Addr} {ln pb : Nat} {x : Option Addr} {y z : Nat} {t : TypeId} (h : Found w n B l la ln) (k : CellsAt w pb #[.slice x y z] t) (v : Value) : Found (w.setCell ⟨pb, 0, none⟩ v) n B l la ln := by
  obtain ⟨h1, L, h2, h3⟩ := h
  exact ⟨h1, L, ((h2.apart k).kept (fun b hb => hb) (Kept.setCell (Kept.refl _ w) (p := ⟨pb, 0, none⟩) rfl v)).weaken (fun _ _ _ => trivial), h3⟩
theorem second_set {W w : World} {a : Option Addr} {n c pb : Nat} {B : Nat → Blk} {rs l : List Int} {aa : Option Addr} {an : Nat} {e1 e2 : Int} {ba : Option Addr} {bn bc : Nat} (k : CellsAt w pb #[.slice none 0 0] 25) (hpb : W.heap.size < pb) (hE : BE W w a n c) (hA : e1 = 0 → Found w n B rs aa an) (hB : e2 = 0 → Found w n B l ba bn) :
    Second W (w.setCell ⟨pb, 0, none⟩ (.slice ba bn bc)) a n c B rs l aa an e1 (.int .i64 e2) (.pointer (some ⟨pb, 0, none⟩)) := by
  have kk := Kept.setCell (Kept.refl pb w) (p := ⟨pb, 0, none⟩) rfl (.slice ba bn bc)
  have hlt := k.lt
  refine ⟨pb, ba, bn, bc, e2, rfl, rfl, ?_, by rw [kk.size]; exact hlt, ⟨hE.s.past (a := ⟨pb, 0, none⟩) (by simp; omega) _, hE.bel.setCell (p := ⟨pb, 0, none⟩) (by simp; omega) _⟩, fun h => (hA h).set k _, fun h => (hB h).set k _⟩
  have := (k.set 0 (.slice ba bn bc)).cell 0
  simpa using this

theorem second_new {W w : World} {a : Option Addr} {n c : Nat} {B : Nat → Blk} {rs l : List Int} {aa : Option Addr} {an : Nat} {e1 e2 : Int} {ba : Option Addr} {bn bc : Nat} (hE : BE W w a n c) (hA : e1 = 0 → Found w n B rs aa an) (hB : e2 = 0 → Found w n B l ba bn) :
    Second W (w.alloc (.cells #[.slice ba bn bc] 25)) a n c B rs l aa an e1 (.int .i64 e2) (.pointer (some ⟨w.heap.size, 0, none⟩)) := by
  have k := cellsAt_alloc w #[.slice ba bn bc] 25
  have b := below_alloc w (.cells #[.slice ba bn bc] 25)
  exact ⟨w.heap.size, ba, bn, bc, e2, rfl, rfl, by simp, k.lt, hE.below b, fun h => (hA h).below b, fun h => (hB h).below b⟩

set_option maxHeartbeats 8000000 in
set_option maxRecDepth 100000 in
theorem storeReached_walk (a : Option Addr) (n c : Nat) (B : Nat → Blk) (ra : Option Addr) (rn rc : Nat) (rs : List Int) (ma : Option Addr) (mn mc : Nat) (ms : List Int) (w : World) (h : StoreAt w a n B)
    (hr : NumsAt (fun _ => True) .i64 w ra rn rs) (hm : NumsAt (fun _ => True) .i64 w ma mn ms) (hrn : ra = none → rn = 0 ∧ rc = 0) (hmn : ma = none → mn = 0 ∧ mc = 0) (hb : (rn + mn) * 8 ≤ 281474976710656) :
    Calls Try.prog 5 #[.agg #[.slice a n c], .slice ra rn rc, .slice ma mn mc] w fun e w' => e = .returned (.bool true) ∧ Below w.heap.size w w' := by
  obtain ⟨i0, hi, hz0, hz1, hz2⟩ := info_parts Try.infoInt
  have hmf : ∀ (fn : Fn) (first cap : Array Value) (w : World), (Instr.makeFunc fn first cap).run Try.prog w = .ok (.func fn first cap) w := fun _ _ _ _ => rfl
  have hE : BE w _ a n c := ⟨cellsAt_alloc w #[.slice a n c] 24, below_alloc w (.cells #[.slice a n c] 24)⟩
  have m0 := hE.s.cell 0
  simp only [List.getElem?_toArray, List.getElem?_cons_zero] at m0
  replace hE := hid hE
  replace h := hid h
  replace hr := hid hr
  replace hm := hid hm
  replace hrn := hid hrn
  replace hmn := hid hmn
  go_enter Try.func5, Try.ntmps5
  go_wp2_with fail
  generalize w.alloc (.cells #[.slice a n c] 24) = w0 at *
  refine (storeOutside_any a n c B w0 (h.out.below hE.out.bel)).mono ?_
  rintro e w1 ⟨b1, ⟨e', rfl, he', hno⟩ | ⟨hR, g3, rfl, hrow⟩⟩
  · replace hE := hid (hE.out.below b1)
    have h0' : (e' == 0) = false := by simp [he']
    clear m0 b1 hno
    go_wp2_with fail
    refine (stored_any w1).mono ?_
    rintro e w2 ⟨rfl, b2⟩
    replace hE := hid (hE.out.below b2)
    clear b2
    go_wp2_with fail
    refine (stored_any w2).mono ?_
    rintro e w3 ⟨rfl, b3⟩
    replace hE := hid (hE.out.below b3)
    go_wp2_with fail
    go_ret
    exact ⟨rfl, hE.out.bel⟩
  have hn := hR.small
  replace hE := hid (hE.out.below b1)
  replace hR := hid hR
  replace hrow := hid hrow
  clear m0 b1
  go_wp2_with fail
  refine (stored_any w1).mono ?_
  rintro e w3 ⟨rfl, b3⟩
  replace hE := hid (hE.out.below b3)
  have hrc0 : Hid (∀ i, i < n → w3.cell? ⟨g3, i, none⟩ = some (.int .i64 (outs n B i))) := hid (fun i hi => (b3.cell (p := ⟨g3, i, none⟩) hrow.out.lt.2).trans (hrow.out.cell hi))
  have hg3 : g3 < w3.heap.size := Nat.lt_of_lt_of_le hrow.out.lt.2 b3.size
  clear hrow b3
  go_wp2_with fail
  go_loopw [9, 32] (fun v u wi => ∃ i : Nat, i ≤ n ∧ u = .int .i64 i ∧ wi.ownsRow w3.heap.size 3 1 v (heldL (fun k => decide (0 < outs n B k)) i).length ((heldL (fun k => decide (0 < outs n B k)) i).map (Value.int .i64)) ∧ Below w3.heap.size w3 wi) (fun _ u _ => n - (Go.RowKit.intOf u).toNat)
  case atStart => exact ⟨0, Nat.zero_le _, rfl, World.ownsRow_nil _ _ _ _, Below.refl _ _⟩
  case round =>
    obtain ⟨i, hin, rfl, hown, hbel⟩ := hrel
    by_cases hlt : i < n
    · have hrc1 : wr.cell? ⟨g3, i, none⟩ = some (.int .i64 (outs n B i)) := (hbel.cell (p := ⟨g3, i, none⟩) hg3).trans (hrc0.out i hlt)
      have hsz := hbel.size
      have hs : Hid (heldL (fun k => decide (0 < outs n B k)) (i + 1) = heldL (fun k => decide (0 < outs n B k)) i ++ (if 0 < outs n B i then [(i : Int) + 1] else [])) := hid (by
        show heldL _ i ++ (if (decide (0 < outs n B i)) = true then [(i : Int) + 1] else []) = _
        simp)
      have hln := heldL_length (fun k => decide (0 < outs n B k)) i
      have hln2 := heldL_length (fun k => decide (0 < outs n B k)) (i + 1)
      generalize outs n B i = oi at *
      by_cases hpos : 0 < oi
      · rw [if_pos hpos] at hs
        generalize hL : heldL (fun k => decide (0 < outs n B k)) i = L at *
        generalize hL2 : heldL (fun k => decide (0 < outs n B k)) (i + 1) = L2 at *
        replace hL := hid hL
        replace hL2 := hid hL2
        go_wp2_with (at_builtin; refine wpList_append_own _ rfl _ _ 25 rfl w3.heap.size 3 i0 (.int .i64 0) 1 8 Try.underlying25 hi hz0 hz1 hz2 rfl (by decide) _ _ _ rfl (hown.alloc _) ⟨wr.heap.size, 0, none⟩ 1 1 [.int .i64 ((i : Int) + 1)] rfl rfl (app_one _ _ _) (fun u hu => by simp at hu; subst hu; rfl) (by unfold maxLen; omega) (by omega) (by simp; omega) ?_)
        intro v' w4 hown' hgrow _
        have hbel' := (hbel.alloc (by omega) _).grown hgrow (by simp; omega) (by
          intro k' hk'
          exact (hown.lt k' hk').1)
        have hown2 : w4.ownsRow w3.heap.size 3 1 v' L2.length (L2.map (Value.int .i64)) := by
          rw [hs.out, List.map_append, List.length_append]; exact hown'
        clear hown hown' hgrow hs hbel
        go_wp2_with fail
        go_roundw
        case rel => exact ⟨i + 1, by omega, by go_num, by rw [hL2.out]; exact hown2, hbel'⟩
        case measure => simp [Go.RowKit.intOf]; omega
      · rw [if_neg hpos, List.append_nil] at hs
        replace hown := hid hown
        go_wp2_with fail
        go_roundw
        case rel => exact ⟨i + 1, by omega, by go_num, by rw [hs.out]; exact hown.out, hbel⟩
        case measure => simp [Go.RowKit.intOf]; omega
    · obtain rfl : i = n := by omega
      obtain ⟨ha, hc, rfl, hnc, hN0⟩ := numsAt_own (heldL_wf _ i hn) hown
      have hN := hid (hN0.weaken (R := fun _ => True) (fun _ _ _ => trivial))
      have hxs := hid (fun x => mem_heldL (fun k => decide (0 < outs i B k)) x i)
      have hln := heldL_length (fun k => decide (0 < outs i B k)) i
      replace hE := hE.out.below hbel
      have m0 := hE.s.cell 0
      simp only [List.getElem?_toArray, List.getElem?_cons_zero] at m0
      replace hE := hid hE
      clear hN0 hown hbel hrc0 hg3
      generalize heldL (fun k => decide (0 < outs i B k)) i = xs at *
      generalize hm' : xs.length = m at *
      replace hm' := hid hm'
      generalize hwi : wr = wi at *
      clear hwi
      have hok : Hid (Reachable i B xs) := hid ⟨hR.out, fun r hr' => by
        obtain ⟨k, hk, hp, rfl⟩ := (hxs.out r).1 hr'
        exact .inr (held_there hk (of_decide_eq_true hp))⟩
      have hm4 : m < 9223372036854775807 := by omega
      go_wp2_with fail
      refine (storeReach_any a i c B ha m hc xs wi (h.out.below hE.out.bel) hN.out hm4).mono ?_
      rintro e w5 ⟨hD, b5⟩
      obtain ⟨la, ln, lc, e1, rfl, hyes, hfound⟩ := hD.uni
      obtain rfl : e1 = 0 := hyes hok.out
      obtain ⟨_, L, hL, hLr, hLm⟩ := hfound rfl
      have hlen : ln = usedTo B i := by
        rw [← hL.1]
        refine used_length hR.out hLr fun x => ⟨fun hx => Clo.there hR.out hok.out.2 ((hLm x).1 hx), fun ht => (hLm x).2 ?_⟩
        have := all_reached hR.out (l := xs) (fun k hk ho => (hxs.out _).2 ⟨k, hk, decide_eq_true ho, rfl⟩) (x - 1).toNat (ix ht.1 ht.2.1).1 ht.2.2
        rwa [(ix ht.1 ht.2.1).2] at this
      subst hlen
      replace hE := hE.out.below b5
      have m0 := hE.s.cell 0
      simp only [List.getElem?_toArray, List.getElem?_cons_zero] at m0
      replace hE := hid hE
      clear hD hyes hfound hL hLr hLm b5 hN hxs hok hm4 hln hnc hm'
      go_wp2_with fail
      refine (storeUsed_any a i c B w5 (h.out.below hE.out.bel)).mono ?_
      rintro e w6 ⟨b6, ⟨e', _, _, hno⟩ | ⟨_, rfl⟩⟩
      · exact absurd hR.out hno
      replace hE := hE.out.below b6
      have m0 := hE.s.cell 0
      simp only [List.getElem?_toArray, List.getElem?_cons_zero] at m0
      replace hE := hid hE
      clear b6
      generalize usedTo B i = us at *
      go_wp2_with fail
      refine (storeReach_any a i c B ra rn rc rs w6 (h.out.below hE.out.bel) (hr.out.below hE.out.bel) (by omega)).mono ?_
      rintro e w7 ⟨hD, b7⟩
      obtain ⟨aa, an, ac, e1, rfl, _, hA⟩ := hD.uni
      replace hA := hid hA
      replace hE := hE.out.below b7
      have m0 := hE.s.cell 0
      simp only [List.getElem?_toArray, List.getElem?_cons_zero] at m0
      replace hE := hid hE
      clear hD b7
      go_upto_region 16 with fail
      have hE7 := hE.out.s.lt
      have n7 := Nat.ne_of_lt hE7
      have n7' := n7.symm
      have n6 : w7.heap.size + 1 ≠ w.heap.size := by omega
      have n6' := n6.symm
      have b1 := hid ((below_alloc w7 (.cells #[.slice ra rn rc, .slice ma mn mc] 25)).drew)
      have k1 : CellsAt (w7.alloc (.cells #[.slice ra rn rc, .slice ma mn mc] 25)).drew w7.heap.size #[.slice ra rn rc, .slice ma mn mc] 25 := (cellsAt_alloc w7 _ _).below (below_drew _ _)
      have p1 : Hid ((w7.alloc (.cells #[.slice ra rn rc, .slice ma mn mc] 25)).drew.cell? ⟨w7.heap.size, 0, none⟩ = some (.slice ra rn rc)) := hid (k1.cell 0)
      have q1 : Hid ((w7.alloc (.cells #[.slice ra rn rc, .slice ma mn mc] 25)).drew.cell? ⟨w7.heap.size, 1, none⟩ = some (.slice ma mn mc)) := hid (k1.cell 1)
      have l1 := hid k1.lt
      have x1 := hid ((hr.out.below hE.out.bel).below b1.out)
      have y1 := hid ((hm.out.below hE.out.bel).below b1.out)
      have b2 := hid (((below_alloc w7 (.cells #[.slice none 0 0] 25)).alloc (by simp) (.cells #[.slice ra rn rc, .slice ma mn mc] 25)).drew)
      have k2 : CellsAt ((w7.alloc (.cells #[.slice none 0 0] 25)).alloc (.cells #[.slice ra rn rc, .slice ma mn mc] 25)).drew (w7.heap.size + 1) #[.slice ra rn rc, .slice ma mn mc] 25 := (cellsAt_alloc2 w7 (.cells #[.slice none 0 0] 25) _ _).below (below_drew _ _)
      have p2 : Hid (((w7.alloc (.cells #[.slice none 0 0] 25)).alloc (.cells #[.slice ra rn rc, .slice ma mn mc] 25)).drew.cell? ⟨w7.heap.size + 1, 0, none⟩ = some (.slice ra rn rc)) := hid (k2.cell 0)
      have q2 : Hid (((w7.alloc (.cells #[.slice none 0 0] 25)).alloc (.cells #[.slice ra rn rc, .slice ma mn mc] 25)).drew.cell? ⟨w7.heap.size + 1, 1, none⟩ = some (.slice ma mn mc)) := hid (k2.cell 1)
      have l2 := hid k2.lt
      have x2 := hid ((hr.out.below hE.out.bel).below b2.out)
      have y2 := hid ((hm.out.below hE.out.bel).below b2.out)
      have k2 : CellsAt ((w7.alloc (.cells #[.slice none 0 0] 25)).alloc (.cells #[.slice ra rn rc, .slice ma mn mc] 25)).drew w7.heap.size #[.slice none 0 0] 25 := ((cellsAt_alloc w7 _ _).below (below_alloc _ _)).below (below_drew _ _)
      have b3 := hid (((below_alloc w7 (.cells #[.slice ra rn rc, .slice ma mn mc] 25)).alloc (by simp) (.cells #[.slice none 0 0] 25)).drew)
      have k3 : CellsAt ((w7.alloc (.cells #[.slice ra rn rc, .slice ma mn mc] 25)).alloc (.cells #[.slice none 0 0] 25)).drew w7.heap.size #[.slice ra rn rc, .slice ma mn mc] 25 := ((cellsAt_alloc w7 _ _).below (below_alloc _ _)).below (below_drew _ _)
      have p3 : Hid (((w7.alloc (.cells #[.slice ra rn rc, .slice ma mn mc] 25)).alloc (.cells #[.slice none 0 0] 25)).drew.cell? ⟨w7.heap.size, 0, none⟩ = some (.slice ra rn rc)) := hid (k3.cell 0)
      have q3 : Hid (((w7.alloc (.cells #[.slice ra rn rc, .slice ma mn mc] 25)).alloc (.cells #[.slice none 0 0] 25)).drew.cell? ⟨w7.heap.size, 1, none⟩ = some (.slice ma mn mc)) := hid (k3.cell 1)
      have l3 := hid k3.lt
      have x3 := hid ((hr.out.below hE.out.bel).below b3.out)
      have y3 := hid ((hm.out.below hE.out.bel).below b3.out)
      have k3 : CellsAt ((w7.alloc (.cells #[.slice ra rn rc, .slice ma mn mc] 25)).alloc (.cells #[.slice none 0 0] 25)).drew (w7.heap.size + 1) #[.slice none 0 0] 25 := (cellsAt_alloc2 w7 (.cells #[.slice ra rn rc, .slice ma mn mc] 25) _ _).below (below_drew _ _)
      clear k1
      replace k2 := hid k2
      replace k3 := hid k3
      have hrm : (rs ++ ms).length < 9223372036854775807 := by rw [List.length_append, hr.out.1, hm.out.1]; omega
      go_cut [14, 16] from 74 (fun u v wc => Second w wc a i c B rs (rs ++ ms) aa an e1 u v)
      case first =>
        go_region_held3 (fun w' => w'.cell? ⟨w.heap.size, 0, none⟩ = some (.slice a i c)) (first | go_keep | assumption) (first | (go_at_call 22; refine Calls.mono (concat_any _ ra rn rc rs ma mn mc ms _ ?_ ?_ ?_ ?_ ?_ hrn.out hmn.out hb) ?_; (first | with_reducible exact l1.out | with_reducible exact l2.out | with_reducible exact l3.out); (first | with_reducible exact p1.out | with_reducible exact p2.out | with_reducible exact p3.out); (first | with_reducible exact q1.out | with_reducible exact q2.out | with_reducible exact q3.out); (first | with_reducible exact x1.out | with_reducible exact x2.out | with_reducible exact x3.out); (first | with_reducible exact y1.out | with_reducible exact y2.out | with_reducible exact y3.out); rintro e w8 ⟨⟨v8, rfl, hL8⟩, b8⟩; obtain ⟨ca, cc, rfl, _, hC0⟩ := numsAt_own hL8.2 hL8.1; have hC := hid (hC0.weaken (R := fun _ => True) (fun _ _ _ => trivial)); (first | (with_reducible have b78 := hid (Below.tr b1.out b8)) | (with_reducible have b78 := hid (Below.tr b2.out b8); with_reducible have k16 := hid (k2.out.below b8)) | (with_reducible have b78 := hid (Below.tr b3.out b8); with_reducible have k16 := hid (k3.out.below b8))); have hE8 := hE.out.below b78.out; have m8 := hE8.s.cell 0; simp only [List.getElem?_toArray, List.getElem?_cons_zero] at m8; have n8 := Nat.ne_of_lt hE8.s.lt; have n8' := n8.symm; replace hE8 := hid hE8; (try (have j0 := k16.out.cell 0; have j1 := k16.out.frozen 0; simp only [List.getElem?_toArray, List.getElem?_cons_zero] at j0)); have x8 := hid (h.out.below hE8.out.bel); have z8 := hid (x8.out.below (below_alloc _ (.cells #[.slice none 0 0] 25))); have d8 := hid (hC.out.below (below_alloc _ (.cells #[.slice none 0 0] 25))); clear hL8 b8 hC0; generalize (rs ++ ms).length = cn at *) | (go_at_call 18; refine Calls.mono (storeReach_any a i c B ca cn cc (rs ++ ms) _ ?_ ?_ hrm) ?_; (first | with_reducible exact x8.out | with_reducible exact z8.out); (first | with_reducible exact hC.out | with_reducible exact d8.out); rintro e w9 ⟨hD9, b9⟩; obtain ⟨ba, bn, bc, e2, rfl, _, hB9⟩ := hD9.uni; (first | (with_reducible have hE9 := hid (hE8.out.below b9); have b79 := hid (Below.tr b78.out b9); (try (replace k16 := hid (k16.out.below b9)))) | (with_reducible have hE9 := hid ((hE8.out.below (below_alloc _ _)).below b9); have b79 := hid (Below.tr (Below.tr b78.out (below_alloc _ _)) b9); have k16 := hid ((cellsAt_alloc w8 #[.slice none 0 0] 25).below b9))); replace hB9 := hid hB9; have n9 := Nat.ne_of_lt hE9.out.s.lt; have n9' := n9.symm; have m9 := hE9.out.s.cell 0; simp only [List.getElem?_toArray, List.getElem?_cons_zero] at m9; (try (have i0 := k16.out.cell 0; have i1 := k16.out.frozen 0; simp only [List.getElem?_toArray, List.getElem?_cons_zero] at i0)); have hk8 := b78.out.size; clear hD9 b9))
        all_goals (go_wp2_with fail; go_meet; first | exact second_set k16.out (by omega) hE9.out (fun h => (hA.out h).below b79.out) hB9.out | exact second_new hE9.out (fun h => (hA.out h).below b79.out) hB9.out)
      case rest =>
        obtain ⟨pb, ba, bn, bc, e2, rfl, rfl, hp, hpb, hE', hA', hB'⟩ := hcut
        clear hA hE p1 q1 l1 b1 x1 y1 p2 q2 l2 b2 x2 y2 p3 q3 l3 b3 x3 y3 k2 k3 hrm m0
        replace hA' := hid hA'
        replace hB' := hid hB'
        have m0 := hE'.s.cell 0
        simp only [List.getElem?_toArray, List.getElem?_cons_zero] at m0
        replace hE' := hid hE'
        by_cases h1 : e1 = 0
        · subst h1
          by_cases h2 : e2 = 0
          · subst h2
            obtain ⟨hya, La, hLa, hra, hma⟩ := hA'.out rfl
            obtain ⟨hyb, Lb, hLb, hrb, hmb⟩ := hB'.out rfl
            have hta : ∀ x ∈ La, There i B x := fun x hx => Clo.there hR.out hya.2 ((hma x).1 hx)
            have htb : ∀ x ∈ Lb, There i B x := fun x hx => Clo.there hR.out hyb.2 ((hmb x).1 hx)
            have sa : an ≤ i := by rw [← hLa.1]; exact rising_short hra (fun x hx => ⟨(hta x hx).1, (hta x hx).2.1⟩)
            have sb : bn ≤ i := by rw [← hLb.1]; exact rising_short hrb (fun x hx => ⟨(htb x hx).1, (htb x hx).2.1⟩)
            have hok : Reachable i B La := ⟨hR.out, fun r hr' => .inr (hta r hr')⟩
            have hsub : ∀ y ∈ La, y ∈ Lb := fun y hy => (hmb y).2 (clo_more ((hma y).1 hy))
            have h00 : (0 : Int) ∉ La := fun hx => by have := (hta 0 hx).1; omega
            replace hLa := hid hLa
            replace hLb := hid hLb
            replace hra := hid hra
            replace hrb := hid hrb
            replace hma := hid hma
            replace hok := hid hok
            replace hsub := hid hsub
            replace h00 := hid h00
            clear hA' hB' hya hyb hmb hta htb
            go_wp2_with fail
            refine (storeReach_any a i c B aa an ac La _ (h.out.below hE'.out.bel) hLa.out (by omega)).mono ?_
            rintro e w10 ⟨hD, b10⟩
            obtain ⟨ga, gn, gc, e3, rfl, hyes, hfound⟩ := hD.uni
            obtain rfl : e3 = 0 := hyes hok.out
            obtain ⟨_, Lc, hLc, hrc', hmc⟩ := hfound rfl
            obtain rfl : Lc = La := rising_eq hrc' hra.out (fun x => (hmc x).trans (clo_again hma.out h00.out x))
            obtain rfl : gn = an := hLc.1.symm.trans hLa.out.1
            have hp10 := (b10.cell (p := ⟨pb, 0, none⟩) hpb).trans hp
            replace hLa := hid (hLa.out.below b10)
            replace hLb := hid (hLb.out.below b10)
            replace hLc := hid hLc
            replace hE' := hid (hE'.out.below b10)
            clear hD hyes hfound hrc' hmc b10 m0 hp
            go_wp2_with fail
            refine (equalInts_same ga aa gn gc ac _ _ Lc w10 (by omega) hLc.out hLa.out).mono ?_
            rintro e w11 ⟨rfl, q, rfl⟩
            have b11 := below_drewN w10.heap.size w10 q
            have hp11 : (w10.drewN q).cell? ⟨pb, 0, none⟩ = some (.slice ba bn bc) := by simpa using hp10
            replace hLa := hid (hLa.out.below b11)
            replace hLb := hid (hLb.out.below b11)
            replace hE' := hid (hE'.out.below b11)
            clear b11 hp10 hLc
            generalize w10.drewN q = w11 at *
            go_wp2_with fail
            refine (containsMissing_any ⟨pb, 0, none⟩ ba bn bc Lb aa gn ac Lc w11 hp11 (by omega) hLb.out (by omega) hLa.out hsub.out).mono ?_
            rintro e w12 ⟨rfl, rfl⟩
            go_wp2_with fail
            refine (isSorted_any ba bn bc Lb w12 (by omega) hLb.out hrb.out).mono ?_
            rintro e w13 ⟨rfl, q2, rfl⟩
            go_wp2_with fail
            go_ret
            exact ⟨rfl, hE'.out.bel.trans (below_drewN _ _ q2)⟩
          · have h2' : (e2 == 0) = false := by simp [h2]
            go_wp2_with fail
            go_ret
            exact ⟨rfl, hE'.out.bel⟩
        · have h1' : (e1 == 0) = false := by simp [h1]
          go_wp2_with fail
          go_ret
          exact ⟨rfl, hE'.out.bel⟩

end Go.Proofs.Ytaagnojdpedilab
