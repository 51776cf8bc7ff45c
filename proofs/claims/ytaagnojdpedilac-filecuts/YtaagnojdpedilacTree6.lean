/-
  Contract of tree.put. Nothing here is trusted.
-/
import Derived.Test.YtaagnojdpedilacTree5
set_option linter.unusedVariables false
namespace Go.Proofs.Ytaagnojdpedilac
open Go.RowKit

theorem RetP.uni {e : Ending} {p : Addr} {g n : Nat} {P : (Nat → Blk) → Int → Prop} {w : World} {q : Prop} (h : RetP e p g n P (fun e' => e' = 8 ∧ q) w) :
    ∃ a e' : Int, e = .returned (.tuple #[.int .i64 a, .int .i64 e']) ∧ ((a = 0 ∧ e' = 8 ∧ q) ∨ (e' = 0 ∧ ∃ D, P D a ∧ OwnPtr w p g n D)) := by
  rcases h with ⟨e', rfl, _, rfl, hq⟩ | ⟨C, a, rfl, h1, h2⟩
  · exact ⟨0, 8, rfl, .inl ⟨rfl, rfl, hq⟩⟩
  · exact ⟨a, 0, rfl, .inr ⟨rfl, C, h1, h2⟩⟩
/-- what stands behind the call of put in put -/
def Mid (W W3 wc : World) (p : Addr) (g n h : Nat) (k0 k1 k2 k3 : Int) (P : (Nat → Blk) → Int → Prop) (q : Prop) (u v : Value) : Prop :=
  Out g W wc ∧ FreshL W3 wc g n ∧ CellsAt wc h #[.int .i64 k0, .int .i64 k1, .int .i64 k2, .int .i64 k3] 82 ∧
  ∃ k e' : Int, u = .int .i64 k ∧ v = .int .i64 e' ∧ ((k = 0 ∧ e' = 8 ∧ q) ∨ (e' = 0 ∧ ∃ D, P D k ∧ OwnPtr wc p g n D))

theorem mid_cells {w w' : World} {g h : Nat} {cs : Array Value} {t : TypeId} (k : CellsAt w h cs t) (o : Out g w.drew w') (hg : h ≠ g) : CellsAt w' h cs t := by
  have := k.lt
  unfold CellsAt
  rw [o.block h (by simpa using this) hg]
  exact k

theorem tdiv_nat (i q : Nat) : (i : Int).tdiv (q : Int) = ((i / q : Nat) : Int) := by simp [Int.tdiv]
theorem tmod_nat (i q : Nat) : (i : Int).tmod (q : Int) = ((i % q : Nat) : Int) := by simp [Int.tmod]

set_option maxHeartbeats 4000000 in
set_option maxRecDepth 100000 in
theorem put_any (p : Addr) (g n : Nat) (ba : Option Addr) (bn bc : Nat) (bs : List Int) (c : Int) (hbs : bs = [] ∨ bs.length = 4) (hcc : bn ≤ bc) (h1 : 1 ≤ c) (hcm : c ≤ 999984) (l : Nat) :
    ∀ (B : Nat → Blk) (root : Int) (i : Nat) (w : World), l ≤ 3 → Right n B → Root n B l root → i < pw l → (∀ k, k < n → (B k).refs ≤ c) → OwnPtr w p g n B → NumsAt (fun b => b ≠ g) .u8 w ba bn bs →
    Calls Try.prog 40 #[.pointer (some p), .int .i64 root, .int .i64 l, .int .i64 i, .slice ba bn bc] w fun e w' => RetP e p g n (fun C a => PutOk n B l root i bs c C a) (fun e' => e' = 8 ∧ n ≤ usedTo B n + l) w' ∧ Out g w w' ∧ FreshL w w' g n := by
  induction l with
  | zero =>
    intro B root i w hl hR hr hi hc h hb
    replace h := hid h
    replace hb := hid hb
    replace hR := hid hR
    go_enter Try.func40, Try.ntmps40
    go_wp2_with fail
    refine (putLeaf_any p g n B ba bn bc bs w h.out hb.out hcc).mono ?_
    rintro e w1 ⟨hD, hO, hF⟩
    replace hO := hid hO
    replace hF := hid hF
    rcases hD with ⟨e', rfl, he, hne, hno⟩ | ⟨C, a, rfl, hP, hC⟩
    · obtain rfl : e' = 8 := hno.2 hR.out (leaf_form (hbs.resolve_left hne))
      have hus := used_full hR.out (fun f => hno.1 ⟨hR.out, leaf_form (hbs.resolve_left hne), f⟩)
      clear hno
      go_wp2_with fail
      go_ret2
      exact ⟨.inl ⟨8, rfl, by omega, rfl, by omega⟩, hO.out, hF.out⟩
    · replace hP := hid hP
      replace hC := hid hC
      go_wp2_with fail
      go_ret2
      exact ⟨.inr ⟨C, a, rfl, putOk_leaf hR.out h1 hcm hc hi hP.out, hC.out⟩, hO.out, hF.out⟩
  | succ l ih =>
    intro B root i w hl hR hr hi hc h hb
    have hp := pw_pos l
    have hq64 := pw_le (show l ≤ 3 by omega)
    have hi64 := pw_le hl
    have hd : i / pw l < 4 := by simp only [pw] at hi; exact Nat.div_lt_of_lt_mul (by rw [Nat.mul_comm]; exact hi)
    have hm := Nat.mod_lt i hp
    have hdv := tdiv_nat i (pw l)
    have hmv := tmod_nat i (pw l)
    obtain ⟨k0, k1, k2, k3, hks⟩ := four (hr.len hR)
    have hx : root = 0 ∨ There n B root := hr.imp id (·.1)
    have hn := hR.small
    have hroot := hr.kidAt hR hd
    have hwf : ∀ x ∈ [k0, k1, k2, k3], -9223372036854775808 ≤ x ∧ x ≤ 9223372036854775807 := by
      intro x hx'
      rw [← hks] at hx'
      rcases hr.kid hR hx' with h | ⟨⟨h1, h2, _⟩, _⟩ <;> omega
    have hnode : ∀ D k c', Grew n B D l k c' → (kidsL B root).set (i / pw l) k ≠ [0, 0, 0, 0] → Form n D { nodeB (l + 1) ((kidsL B root).set (i / pw l) k) with refs := 1 } := fun D k c' hg hz => node_form hl hR hr hd hg hz
    have hnext : ∀ D k C a, PutOk n B l ((kidsL B root).getD (i / pw l) 0) (i % pw l) bs c D k → Above n D (l + 1) ((kidsL B root).set (i / pw l) k) k C a → PutOk n B (l + 1) root i bs c C a := fun D k C a h h' => putOk_next hl hR h1 hcm hr hi h h'
    rw [hks] at hnode hnext hroot
    have hg0 : g < w.heap.size := h.own.lt
    have hI := ih B ([k0, k1, k2, k3].getD (i / pw l) 0) (i % pw l)
    have hiI : i < 9223372036854775807 := by omega
    generalize hqd : pw l = q at *
    generalize i / q = d at *
    generalize i % q = r at *
    replace hI := hid hI
    replace hnode := hid hnode
    replace hnext := hid hnext
    replace hroot := hid hroot
    replace hb := hid hb
    replace h := hid h
    replace hR := hid hR
    replace hc := hid hc
    replace hwf := hid hwf
    clear ih
    have el : ((l + 1 : Nat) : Int) - 1 = (l : Int) := by omega
    have el' : ((l : Int) + 1) - 1 = (l : Int) := by omega
    have hll : l ≤ 3 := by omega
    go_enter Try.func40, Try.ntmps40
    go_wp2_with fail
    refine (width_any l w hll).mono ?_
    rintro e w1 ⟨rfl, rfl⟩
    rw [hqd]
    go_wp2_with fail
    refine (kidsOf_any p _ n n B root k0 k1 k2 k3 w1 hn h.out.ptr hx hks).mono ?_
    rintro e w2 ⟨rfl, b2⟩
    go_upto_region 5 with fail
    have k3' := cellsAt_alloc w2 #[.int .i64 k0, .int .i64 k1, .int .i64 k2, .int .i64 k3] 82
    have b23 := below_alloc w2 (.cells #[.int .i64 k0, .int .i64 k1, .int .i64 k2, .int .i64 k3] 82)
    have hP2 := h.out.below b2
    have hP3 := hid (hP2.below b23)
    have hb3 := hid ((hb.out.below b2).below b23)
    have hsz2 := b2.size
    have hw2 : Hid (∀ k, k < n → (w2.alloc (.cells #[.int .i64 k0, .int .i64 k1, .int .i64 k2, .int .i64 k3] 82)).cell? ⟨g, k * 4 + 2, none⟩ = w2.cell? ⟨g, k * 4 + 2, none⟩ ∧ (w2.alloc (.cells #[.int .i64 k0, .int .i64 k1, .int .i64 k2, .int .i64 k3] 82)).cell? ⟨g, k * 4 + 3, none⟩ = w2.cell? ⟨g, k * 4 + 3, none⟩) := hid fun k _ => ⟨b23.cell (p := ⟨g, k * 4 + 2, none⟩) (by show g < _; omega), b23.cell (p := ⟨g, k * 4 + 3, none⟩) (by show g < _; omega)⟩
    have cd := cell_at4 k3' d hd
    have hb13 := hid (Below.tr b2 b23)
    have hlt3 := k3'.lt
    replace k3' := hid k3'
    replace hP2 := hid hP2
    replace b23 := hid b23
    clear hb h
    have hq0 : ¬ q = 0 := by omega
    have wd : IntKind.i64.wrap (d : Int) = (d : Int) := Go.IntWalk.i64_in _ (by omega)
    have wr : IntKind.i64.wrap (r : Int) = (r : Int) := Go.IntWalk.i64_in _ (by omega)
    have wl : IntKind.i64.wrap (l : Int) = (l : Int) := Go.IntWalk.i64_in _ (by omega)
    generalize w2.alloc (.cells #[.int .i64 k0, .int .i64 k1, .int .i64 k2, .int .i64 k3] 82) = w3 at *
    generalize hxd : [k0, k1, k2, k3].getD d 0 = x at *
    replace hxd := hid hxd
    go_cut [14, 15] from 30 (fun u v wc => Mid w1 w3 wc p g n w2.heap.size k0 k1 k2 k3 (fun D k => PutOk n B l x r bs c D k) (n ≤ usedTo B n + l) u v)
    case first =>
      go_region_with (go_at_call 40; refine (hI.out _ hll hR.out hroot.out hm hc.out ?_ ?_).mono ?_; exact hP3.out.below (below_drew _ _); exact hb3.out.below (below_drew _ _); rintro e w4 ⟨hD, hO, hF⟩; obtain ⟨u4, v4, rfl, hcase⟩ := hD.uni; replace hO := hid hO; replace hF := hid hF; replace hcase := hid hcase; clear hD)
      all_goals (go_wp2_with fail; go_meet; exact ⟨((Out.of_below hb13.out).trans (Out.of_below (below_drew _ _))).trans hO.out, (FreshL.of_below (below_drew _ _) (by omega)).trans hF.out (Nat.le_refl _), mid_cells k3'.out hO.out (by omega), u4, v4, rfl, rfl, hcase.out⟩)
    case rest =>
      obtain ⟨hO, hF, k4, k, e', rfl, rfl, hcase⟩ := hcut
      rename_i wc
      rcases hcase with ⟨rfl, rfl, hus⟩ | ⟨rfl, D, hPk, hP4⟩
      · replace hF := hid hF
        replace k4 := hid k4
        go_wp2_with fail
        go_ret2
        exact ⟨.inl ⟨8, rfl, by omega, rfl, by omega⟩, hO, (FreshL.of_below hb13.out hg0).trans hF.out hb13.out.size⟩
      · obtain ⟨l0, l1, l2, l3, hls⟩ := four (show ([k0, k1, k2, k3].set d k).length = 4 by simp)
        have c4 := cell_at4 k4 d hd
        have f4 := k4.frozen d
        have k5 := k4.set d (.int .i64 k)
        rw [cells_set4 k0 k1 k2 k3 k d hd l0 l1 l2 l3 hls] at k5
        have hP5 := hid (OwnPtr.past (v := .int .i64 k) (d := d) hP2.out (Nat.le_refl _) hP4 hF hw2.out (by omega))
        have hO5 := hid (hO.setNew (a := ⟨w2.heap.size, d, none⟩) (v := .int .i64 k) hsz2)
        have hF5 := hid (((FreshL.of_below hb13.out hg0).trans hF hb13.out.size).trans (FreshL.of_kept (Kept.setCell (Kept.refl w2.heap.size wc) (p := ⟨w2.heap.size, d, none⟩) rfl (.int .i64 k)) (by omega)) hO.size)
        replace hPk := hid hPk
        replace k4 := hid k4
        clear hF hP4 hO
        go_upto_region 9 with fail
        clear c4 f4 cd
        generalize wc.setCell ⟨w2.heap.size, d, none⟩ (.int .i64 k) = w5 at *
        have m0 := k5.cell 0
        have m1 := k5.cell 1
        have m2 := k5.cell 2
        have m3 := k5.cell 3
        simp at m0 m1 m2 m3
        replace k5 := hid k5
        go_wp2_with fail
        refine (putAbove_any p g n (l + 1) D l0 l1 l2 l3 k w5 hP5.out hl hn ?_ ?_).mono ?_
        · intro x hx'
          rw [← hls] at hx'
          rcases List.mem_or_eq_of_mem_set hx' with h | h
          · exact WalkArith.wf_i64 (by have := hwf.out x h; omega)
          · rcases hPk.out.grew.root with h' | ⟨⟨h1', h2', _⟩, _⟩
            · exact WalkArith.wf_i64 (by omega)
            · exact WalkArith.wf_i64 (by omega)
        · rcases hPk.out.grew.root with h' | ⟨h', _⟩
          · exact .inl h'
          · exact .inr ⟨h', by rw [← hls]; exact List.mem_iff_getElem.2 ⟨d, by simpa using hd, by simp⟩⟩
        rintro e w6 ⟨hD, hO6, hF6⟩
        replace hO6 := hid (hO5.out.trans hO6)
        replace hF6 := hid (hF5.out.trans hF6 hO5.out.size)
        rcases hD with ⟨e', rfl, he, hne, hno⟩ | ⟨C, a, rfl, hP, hC⟩
        · rw [← hls] at hne hno
          obtain rfl : e' = 8 := hno.2 hPk.out.grew.right (hnode.out D k _ hPk.out.grew hne)
          have hus := used_full hPk.out.grew.right (fun f => hno.1 ⟨hPk.out.grew.right, hnode.out D k _ hPk.out.grew hne, f⟩)
          have hus2 := hPk.out.grew.used
          clear hno hne
          go_wp2_with fail
          go_ret2
          exact ⟨.inl ⟨8, rfl, by omega, rfl, by omega⟩, hO6.out, hF6.out⟩
        · rw [← hls] at hP
          replace hP := hid hP
          replace hC := hid hC
          go_wp2_with fail
          go_ret2
          exact ⟨.inr ⟨C, a, rfl, hnext.out D k C a (hxd.out ▸ hPk.out) hP.out, hC.out⟩, hO6.out, hF6.out⟩
end Go.Proofs.Ytaagnojdpedilac
