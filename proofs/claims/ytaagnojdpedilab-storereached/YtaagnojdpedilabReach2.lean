/-
  The contract of blocks.Reach and store.Reach. Nothing here is trusted.
-/
import Derived.Test.YtaagnojdpedilabReach1
import Derived.Test.YtaagnojdpedilabIter
import Derived.Maps.Views
set_option linter.unusedVariables false
namespace Go.Proofs.Ytaagnojdpedilab
open Go.RowKit Go.Maps

/-- rising -/
def Rising (L : List Int) : Prop := L.Pairwise (fun x y => x < y)

theorem sorted_of (V : List Int) (hn : V.Nodup) : Rising (V.mergeSort leI) ∧ ∀ x, x ∈ V.mergeSort leI ↔ x ∈ V := by
  have tr : ∀ a b c : Int, leI a b = true → leI b c = true → leI a c = true := fun a b c h1 h2 => by simp only [leI, decide_eq_true_eq] at *; exact Int.le_trans h1 h2
  have to : ∀ a b : Int, (leI a b || leI b a) = true := fun a b => by simp only [leI, Bool.or_eq_true, decide_eq_true_eq]; exact Int.le_total a b
  have h1 := List.pairwise_mergeSort tr to V
  have h2 : (V.mergeSort leI).Nodup := (List.mergeSort_perm V leI).nodup_iff.2 hn
  refine ⟨?_, fun x => (List.mergeSort_perm V leI).mem_iff⟩
  unfold Rising
  have h3 := List.Pairwise.and h1 h2
  refine h3.imp ?_
  intro a b h
  have ha := h.1
  simp only [leI, decide_eq_true_eq] at ha
  have := h.2
  omega

/-- what Reach answers: a list in new memory -/
def ListAt (base : Nat) (w : World) (v : Value) (L : List Int) : Prop := w.ownsRow base 3 1 v L.length (L.map (Value.int .i64)) ∧ ∀ x ∈ L, (Lit.int .i64 x).wf = true

/-- what Reach refuses not -/
def Reachable (n : Nat) (B : Nat → Blk) (l : List Int) : Prop := Right n B ∧ RootsOk n B l

def RetR (base : Nat) (e : Ending) (w : World) (n : Nat) (B : Nat → Blk) (l : List Int) : Prop :=
  (∃ e', e = .returned (.tuple #[.slice none 0 0, .int .i64 e']) ∧ e' ≠ 0 ∧ ¬ Reachable n B l) ∨
  (Reachable n B l ∧ ∃ v L, e = .returned (.tuple #[v, .int .i64 0]) ∧ ListAt base w v L ∧ Rising L ∧ ∀ x, x ∈ L ↔ Clo B l x)

theorem size_of_perm {D : DataW Unit} {V : List Int} (hD : IsMap D) (h : V.Perm (intKeys D)) : Maps.size D = V.length := by
  obtain ⟨es, rfl⟩ := hD
  rw [h.length_eq]
  simp [intKeys, Maps.size]

theorem seen_new (w : World) : Seen (w.alloc (.map #[] 0)) w.heap.size [] :=
  ⟨.map [], World.ownsMap_made _ _ _ _, ⟨[], rfl⟩, List.nodup_nil, fun x => by simp [has], fun x hx => by simp at hx⟩

set_option maxHeartbeats 4000000 in
set_option maxRecDepth 100000 in
theorem reach_any (p : Addr) (a : Option Addr) (n c : Nat) (B : Nat → Blk) (la : Option Addr) (ln lc : Nat) (l : List Int) (w : World) (h : PtrAt w p a n c B) (hl : NumsAt (fun _ => True) .i64 w la ln l) (hln : ln < 9223372036854775807) :
    Calls Try.prog 54 #[.pointer (some p), .slice la ln lc] w fun e w' => RetR w.heap.size e w' n B l ∧ Below w.heap.size w w' := by
  have hmm := @run_makeMap Try.prog
  have hmf : ∀ (fn : Fn) (first cap : Array Value) (w : World), (Instr.makeFunc fn first cap).run Try.prog w = .ok (.func fn first cap) w := fun _ _ _ _ => rfl
  have b0 := below_alloc w (.cells #[.pointer (some p)] 68)
  have k0 : CellsAt _ w.heap.size #[.pointer (some p)] 68 := cellsAt_alloc w _ _
  replace h := h.below b0
  replace hl := hl.below b0
  go_enter Try.func54, Try.ntmps54
  go_wp2_with fail
  generalize w.alloc (.cells #[.pointer (some p)] 68) = w0 at *
  refine (check_any p a n c B w0 h).mono ?_
  rintro e w1 ⟨⟨e', rfl, he⟩, b1⟩
  replace h := h.below b1
  replace hl := hl.below b1
  replace k0 := k0.below b1
  replace b1 := Below.tr b0 b1
  have s0 := k0.cell 0
  simp at s0
  replace he := hid he
  clear b0
  by_cases h0 : e' = 0
  · have h0' : (e' == 0) = true := by simp [h0]
    have hR := he.out.1 h0
    have hn := hR.small
    have q0 := h.cell
    replace hR := hid hR
    replace hl := hid hl
    replace h := hid h
    replace k0 := hid k0
    go_wp2_with fail
    go_loopw [18] (fun v wr => ∃ j : Nat, j ≤ ln ∧ v = .int .i64 j ∧ (∀ r ∈ l.take j, r = 0 ∨ There n B r) ∧ wr = w1) (fun v _ => ln - (Go.RowKit.intOf v).toNat)
    case atStart => exact ⟨0, Nat.zero_le _, rfl, by simp, rfl⟩
    case round =>
      obtain ⟨j, hjn, rfl, hok, rfl⟩ := hrel
      by_cases hlt : j < ln
      · obtain ⟨kb, ko, rfl, hkb, _, hc⟩ := hl.out.2.2 (by omega)
        have hck := hc j hlt
        have hjl : j < l.length := by rw [hl.out.1]; exact hlt
        have hmem : Hid (l.getD j 0 ∈ l) := hid (hl.out.getD hlt)
        have hstep : Hid ((l.getD j 0 = 0 ∨ There n B (l.getD j 0)) → ∀ r ∈ l.take (j + 1), r = 0 ∨ There n B r) := hid (fun hx r hr => by
          rw [take_snoc hjl] at hr
          rcases List.mem_append.1 hr with hr | hr
          · exact hok r hr
          · simp only [List.mem_singleton] at hr
            rw [hr]; exact hx)
        clear hc hjl hok
        generalize l.getD j 0 = x at *
        by_cases hx0 : x = 0
        · have hx0' : (x == 0) = true := by simp [hx0]
          go_wp2_with fail
          go_roundw
          case rel => exact ⟨j + 1, by omega, by go_num, hstep.out (.inl hx0), trivial⟩
          case measure => simp [Go.RowKit.intOf]; omega
        · have hx0' : (x == 0) = false := by simp [hx0]
          go_wp2_with fail
          refine (there_any p a n c B x _ hn q0 h.out.store).mono ?_
          rintro e w2 ⟨⟨t, rfl, ht⟩, rfl⟩
          replace ht := hid ht
          cases t
          · go_wp2_with fail
            go_ret2
            exact ⟨.inl ⟨5, rfl, by omega, fun f => by
              rcases f.2 x hmem.out with h1 | h1
              · exact hx0 h1
              · simpa using ht.out.2 h1⟩, b1⟩
          · go_wp2_with fail
            go_roundw
            case rel => exact ⟨j + 1, by omega, by go_num, hstep.out (.inr (by simpa using ht.out)), trivial⟩
            case measure => simp [Go.RowKit.intOf]; omega
      · obtain rfl : j = ln := by omega
        have hok' : Hid (RootsOk n B l) := hid (by
          intro r hr
          rw [← List.take_of_length_le (l := l) (i := j) (by rw [hl.out.1]; exact Nat.le_refl _)] at hr
          exact hok r hr)
        clear hok
        go_wp2_with fail
        have bM := below_alloc wr (.map #[] 0)
        have bA := (bM.alloc (by simp) (.cells #[.map (some wr.heap.size)] 106)).alloc (by simp; omega) (.cells #[.func (.func 84) #[] #[.pointer (some ⟨wr.heap.size + 1, 0, none⟩), .pointer (some ⟨wr.heap.size + 1 + 1, 0, none⟩), .pointer (some ⟨w.heap.size, 0, none⟩)]] 107)
        have kM : CellsAt _ (wr.heap.size + 1) #[.map (some wr.heap.size)] 106 := (cellsAt_alloc2 wr (.map #[] 0) _ _).below (below_alloc _ (.cells #[.func (.func 84) #[] #[.pointer (some ⟨wr.heap.size + 1, 0, none⟩), .pointer (some ⟨wr.heap.size + 1 + 1, 0, none⟩), .pointer (some ⟨w.heap.size, 0, none⟩)]] 107))
        have kL := cellsAt_alloc3 wr (.map #[] 0) (.cells #[.map (some wr.heap.size)] 106) #[.func (.func 84) #[] #[.pointer (some ⟨wr.heap.size + 1, 0, none⟩), .pointer (some ⟨wr.heap.size + 1 + 1, 0, none⟩), .pointer (some ⟨w.heap.size, 0, none⟩)]] 107
        have hSe := (seen_new wr).out (w' := ((wr.alloc (.map #[] 0)).alloc (.cells #[.map (some wr.heap.size)] 106)).alloc (.cells #[.func (.func 84) #[] #[.pointer (some ⟨wr.heap.size + 1, 0, none⟩), .pointer (some ⟨wr.heap.size + 1 + 1, 0, none⟩), .pointer (some ⟨w.heap.size, 0, none⟩)]] 107)) (by rw [Below.heap_alloc _ _ _ (by simp; omega), Below.heap_alloc _ _ _ (by simp)])
        have hRE : RE wr (((wr.alloc (.map #[] 0)).alloc (.cells #[.map (some wr.heap.size)] 106)).alloc (.cells #[.func (.func 84) #[] #[.pointer (some ⟨wr.heap.size + 1, 0, none⟩), .pointer (some ⟨wr.heap.size + 1 + 1, 0, none⟩), .pointer (some ⟨w.heap.size, 0, none⟩)]] 107)) (wr.heap.size + 1) (wr.heap.size + 1 + 1) w.heap.size := ⟨bA, kM, kL, by omega, by omega⟩
        generalize ((wr.alloc (.map #[] 0)).alloc (.cells #[.map (some wr.heap.size)] 106)).alloc (.cells #[.func (.func 84) #[] #[.pointer (some ⟨wr.heap.size + 1, 0, none⟩), .pointer (some ⟨wr.heap.size + 1 + 1, 0, none⟩), .pointer (some ⟨w.heap.size, 0, none⟩)]] 107) = w2 at *
        refine (walk_any wr p a n c B w.heap.size (wr.heap.size + 1) (wr.heap.size + 1 + 1) h.out s0 k0.out.lt hR.out 4 l la j lc [] w2 hl.out (fun x hx => by
          rcases hok'.out x hx with h1 | h1
          · exact .inl h1
          · have := (hR.out.one _ (ix h1.1 h1.2.1).1).bounds
            exact .inr ⟨h1, by omega⟩) (by simp) hRE hSe hln).mono ?_
        rintro e w3 ⟨rfl, V, hE, hS, hG⟩
        have m0 := hE.m.cell 0
        simp at m0
        have hb3 := hE.bel
        obtain ⟨D, hown, hD, hnd, hm, hat⟩ := hS
        have hperm : V.Perm (intKeys D) := CollectedI.perm (left := fun _ => false) ⟨hnd, fun x => by simp [hm x]⟩ hown law3 Try.underlying3 (fun _ => rfl)
        have hlen : V.length ≤ n := pigeon n V hnd (fun y hy => ⟨(hG.there y hy).1, (hG.there y hy).2.1⟩)
        have hsize := size_of_perm hD hperm
        have hmemL : Hid (∀ x, x ∈ V ↔ Clo B l x) := hid (fun x => ⟨fun hx => (hG.clo x hx).resolve_left (by simp), fun hx => hx (fun y => y ∈ V) hG.all (fun y hy k hk h0 => hG.shut y hy (by simp) k hk h0)⟩)
        have hthere := hid hG.there
        replace hperm := hid hperm
        replace hnd := hid hnd
        replace hb3 := hid hb3
        replace hown := hid hown
        clear hE hG hm hat hSe hRE bA bM kM kL hD
        go_wp2_with fail
        refine (keys_any (some wr.heap.size) w3).mono ?_
        rintro e w4 ⟨rfl, rfl⟩
        go_wp2_with fail
        refine (sortedKeys_any wr.heap.size V.length D _ w3 hown.out (by rw [hsize]; unfold maxLen; omega) (by rw [hsize]; omega)).mono ?_
        rintro e w5 ⟨v, ss, rfl, hss, hrow, hnil, b5⟩
        have hsort : ss.mergeSort (fun x y => decide (x ≤ y)) = V.mergeSort leI := mergeSort_of_perm_i (hss.trans hperm.out.symm)
        have hslen : ss.length = (V.mergeSort leI).length := by rw [← hsort]; simp
        rw [hsort, hslen] at hrow
        have bT : Below w.heap.size w w5 := (Below.tr b1 hb3.out).trans ((below_alloc w3 (.cells #[.map (some wr.heap.size)] 106)).trans (b5.mono (by omega)) |>.mono (by have := (Below.tr b1 hb3.out).size; omega))
        have hsz : w.heap.size ≤ w3.heap.size := (Below.tr b1 hb3.out).size
        replace hrow := hid hrow
        clear hss hsort hslen hnil b5
        go_wp2_with fail
        go_ret2
        refine ⟨.inr ⟨⟨hR.out, hok'.out⟩, v, V.mergeSort leI, rfl, ⟨ownsRow_base (by omega) hrow.out, fun x hx => ?_⟩, (sorted_of V hnd.out).1, fun x => ((sorted_of V hnd.out).2 x).trans (hmemL.out x)⟩, bT⟩
        have h1 := hthere.out x (((sorted_of V hnd.out).2 x).1 hx)
        exact WalkArith.wf_i64 (by have := h1.1; have := h1.2.1; omega)
  · have h0' : (e' == 0) = false := by simp [h0]
    go_wp2_with fail
    go_ret2
    exact ⟨.inl ⟨e', rfl, h0, fun f => h0 (he.out.2 f.1)⟩, b1⟩

set_option maxHeartbeats 1000000 in
theorem storeReach_any (a : Option Addr) (n c : Nat) (B : Nat → Blk) (la : Option Addr) (ln lc : Nat) (l : List Int) (w : World) (h : StoreAt w a n B) (hl : NumsAt (fun _ => True) .i64 w la ln l) (hln : ln < 9223372036854775807) :
    Calls Try.prog 18 #[.agg #[.slice a n c], .slice la ln lc] w fun e w' => RetR w.heap.size e w' n B l ∧ Below w.heap.size w w' := by
  go_enter Try.func18, Try.ntmps18
  go_wp2_with fail
  refine (reach_any _ a n c B la ln lc l _ (ptr_boxed a n c B w _ h) (hl.below (below_alloc _ _)) hln).mono ?_
  rintro e w1 ⟨⟨e', rfl, he, hR⟩ | ⟨hR, v, L, rfl, hL, hr, hm⟩, b1⟩
  · replace hR := hid hR
    go_wp2_with fail
    go_ret2
    exact ⟨.inl ⟨e', rfl, he, hR.out⟩, Below.tr (below_alloc _ _) b1⟩
  · replace hR := hid hR
    replace hL := hid hL
    replace hr := hid hr
    replace hm := hid hm
    go_wp2_with fail
    go_ret2
    exact ⟨.inr ⟨hR.out, v, L, rfl, ⟨ownsRow_base (by simp) hL.out.1, hL.out.2⟩, hr.out, hm.out⟩, Below.tr (below_alloc _ _) b1⟩

end Go.Proofs.Ytaagnojdpedilab
