/-
  Iter, Reach2, StoreFreesWalk, Sto3 in one text. Nothing here is trusted.
-/
import Derived.Shelf.SlIterI.Nil
import Derived.Shelf.SortM.Plain
import Derived.Shelf.SortM.SortNone
import Derived.Ground.GgzProg
import Derived.Ground.SlgmProg
import Derived.Test.YtnmcgmpmcliinaaGreatRows
import Derived.Test.YtnmcgmpmcliinaaGreatPart05
import Derived.Maps.Views
set_option linter.unusedVariables false
namespace Go.Proofs.YtnmcgmpmcliinaaGreat
open Go.RowKit Go.Maps Go.Sort Go.Shelf
def Tryz.keysA_ren : Go.Shelf.Ren := ⟨fun | 7 => 142 | 10 => 159 | n => n, fun | 23 => 80 | 26 => 3 | 3 => 3 | 28 => 206 | 0 => 0 | 27 => 205 | 33 => 116 | 4 => 4 | n => n, fun | n => n⟩
theorem Tryz.keysA : Go.Proofs.SlLaysZI.n7 Tryz.prog Tryz.keysA_ren := {
  mixed := by kernel_rfl
  f7 := ⟨Tryz.f142.name, by decide, Tryz.func142.trans (congrArg some (by kernel_rfl))⟩
  f10 := ⟨Tryz.f159.name, by decide, Tryz.func159.trans (congrArg some (by kernel_rfl))⟩
  t0 := Tryz.underlying0
  a0 := Tryz.isAgg0
  z0 := Tryz.sizeOf0
  v0 := Tryz.zeroValue0
  t4 := Tryz.underlying4
  a4 := Tryz.isAgg4
  z4 := Tryz.sizeOf4
  v4 := Tryz.zeroValue4
  t23 := Tryz.underlying80
  a23 := Tryz.isAgg80
  z23 := Tryz.sizeOf80
  v23 := Tryz.zeroValue80
  t26 := Tryz.underlying3
  a26 := Tryz.isAgg3
  z26 := Tryz.sizeOf3
  v26 := Tryz.zeroValue3
  t27 := Tryz.underlying205
  a27 := Tryz.isAgg205
  z27 := Tryz.sizeOf205
  v27 := Tryz.zeroValue205
  t28 := Tryz.underlying206
  a28 := Tryz.isAgg206
  z28 := Tryz.sizeOf206
  v28 := Tryz.zeroValue206
  t33 := Tryz.underlying116
  a33 := Tryz.isAgg116
  z33 := Tryz.sizeOf116
  v33 := Tryz.zeroValue116 }
def Tryz.sortedA_ren : Go.Shelf.Ren := ⟨fun | 6 => 141 | 8 => 157 | 9 => 158 | 11 => 170 | 13 => 172 | 12 => 171 | 23 => 186 | 24 => 187 | 14 => 177 | 15 => 178 | 16 => 179 | 17 => 180 | 18 => 181 | 19 => 182 | 20 => 183 | 21 => 184 | 22 => 185 | 25 => 194 | 26 => 195 | 27 => 196 | 28 => 197 | 29 => 198 | 30 => 199 | 31 => 202 | n => n, fun | 26 => 3 | 28 => 206 | 24 => 77 | 0 => 0 | 3 => 3 | 37 => 199 | 48 => 244 | 50 => 246 | 4 => 4 | 40 => 237 | 39 => 236 | 45 => 120 | 5 => 5 | 9 => 9 | 51 => 249 | 55 => 253 | 57 => 256 | 58 => 257 | 33 => 116 | n => n, fun | n => n⟩
theorem Tryz.sortedA : Go.Proofs.SlLaysZI.n6 Tryz.prog Tryz.sortedA_ren := {
  mixed := by kernel_rfl
  f6 := ⟨Tryz.f141.name, by decide, Tryz.func141.trans (congrArg some (by kernel_rfl))⟩
  f8 := ⟨Tryz.f157.name, by decide, Tryz.func157.trans (congrArg some (by kernel_rfl))⟩
  f11 := ⟨Tryz.f170.name, by decide, Tryz.func170.trans (congrArg some (by kernel_rfl))⟩
  t0 := Tryz.underlying0
  a0 := Tryz.isAgg0
  z0 := Tryz.sizeOf0
  v0 := Tryz.zeroValue0
  t24 := Tryz.underlying77
  a24 := Tryz.isAgg77
  z24 := Tryz.sizeOf77
  v24 := Tryz.zeroValue77
  t26 := Tryz.underlying3
  a26 := Tryz.isAgg3
  z26 := Tryz.sizeOf3
  v26 := Tryz.zeroValue3
  t28 := Tryz.underlying206
  a28 := Tryz.isAgg206
  z28 := Tryz.sizeOf206
  v28 := Tryz.zeroValue206
  i26 := by kernel_rfl }
def Tryz.sortA_ren : Go.Shelf.Ren := ⟨fun | 5 => 158 | 8 => 172 | 7 => 171 | 19 => 186 | 20 => 187 | 10 => 177 | 11 => 178 | 12 => 179 | 13 => 180 | 14 => 181 | 15 => 182 | 16 => 183 | 17 => 184 | 18 => 185 | 30 => 194 | 31 => 195 | 32 => 196 | 33 => 197 | 34 => 198 | 35 => 199 | 40 => 202 | n => n, fun | 23 => 77 | 25 => 3 | 3 => 3 | 32 => 199 | 22 => 77 | 0 => 0 | 44 => 244 | 46 => 246 | 4 => 4 | 36 => 237 | 35 => 236 | 41 => 120 | 5 => 5 | 9 => 9 | 53 => 249 | 57 => 253 | 63 => 256 | 64 => 257 | n => n, fun | n => n⟩
theorem Tryz.sortA : Go.Proofs.SlLaysM.n5 Tryz.prog Tryz.sortA_ren := {
  mixed := by kernel_rfl
  f5 := ⟨Tryz.f158.name, by decide, Tryz.func158.trans (congrArg some (by kernel_rfl))⟩
  f7 := ⟨Tryz.f171.name, by decide, Tryz.func171.trans (congrArg some (by kernel_rfl))⟩
  f8 := Tryz.func172.trans (congrArg some (by kernel_rfl))
  f10 := ⟨Tryz.f177.name, by decide, Tryz.func177.trans (congrArg some (by kernel_rfl))⟩
  f11 := ⟨Tryz.f178.name, by decide, Tryz.func178.trans (congrArg some (by kernel_rfl))⟩
  f12 := ⟨Tryz.f179.name, by decide, Tryz.func179.trans (congrArg some (by kernel_rfl))⟩
  f13 := ⟨Tryz.f180.name, by decide, Tryz.func180.trans (congrArg some (by kernel_rfl))⟩
  f14 := ⟨Tryz.f181.name, by decide, Tryz.func181.trans (congrArg some (by kernel_rfl))⟩
  f15 := ⟨Tryz.f182.name, by decide, Tryz.func182.trans (congrArg some (by kernel_rfl))⟩
  f16 := ⟨Tryz.f183.name, by decide, Tryz.func183.trans (congrArg some (by kernel_rfl))⟩
  f17 := ⟨Tryz.f184.name, by decide, Tryz.func184.trans (congrArg some (by kernel_rfl))⟩
  f18 := ⟨Tryz.f185.name, by decide, Tryz.func185.trans (congrArg some (by kernel_rfl))⟩
  f19 := Tryz.func186.trans (congrArg some (by kernel_rfl))
  f20 := Tryz.func187.trans (congrArg some (by kernel_rfl))
  f30 := ⟨Tryz.f194.name, by decide, Tryz.func194.trans (congrArg some (by kernel_rfl))⟩
  f31 := Tryz.func195.trans (congrArg some (by kernel_rfl))
  f32 := Tryz.func196.trans (congrArg some (by kernel_rfl))
  f33 := ⟨Tryz.f197.name, by decide, Tryz.func197.trans (congrArg some (by kernel_rfl))⟩
  f34 := ⟨Tryz.f198.name, by decide, Tryz.func198.trans (congrArg some (by kernel_rfl))⟩
  f35 := ⟨Tryz.f199.name, by decide, Tryz.func199.trans (congrArg some (by kernel_rfl))⟩
  f40 := ⟨Tryz.f202.name, by decide, Tryz.func202.trans (congrArg some (by kernel_rfl))⟩
  t0 := Tryz.underlying0
  a0 := Tryz.isAgg0
  z0 := Tryz.sizeOf0
  v0 := Tryz.zeroValue0
  t3 := Tryz.underlying3
  a3 := Tryz.isAgg3
  z3 := Tryz.sizeOf3
  v3 := Tryz.zeroValue3
  t4 := Tryz.underlying4
  a4 := Tryz.isAgg4
  z4 := Tryz.sizeOf4
  v4 := Tryz.zeroValue4
  t5 := Tryz.underlying5
  a5 := Tryz.isAgg5
  z5 := Tryz.sizeOf5
  v5 := Tryz.zeroValue5
  t9 := Tryz.underlying9
  a9 := Tryz.isAgg9
  z9 := Tryz.sizeOf9
  v9 := Tryz.zeroValue9
  t22 := Tryz.underlying77
  a22 := Tryz.isAgg77
  z22 := Tryz.sizeOf77
  v22 := Tryz.zeroValue77
  t23 := Tryz.underlying77
  a23 := Tryz.isAgg77
  z23 := Tryz.sizeOf77
  v23 := Tryz.zeroValue77
  t25 := Tryz.underlying3
  a25 := Tryz.isAgg3
  z25 := Tryz.sizeOf3
  v25 := Tryz.zeroValue3
  t32 := Tryz.underlying199
  a32 := Tryz.isAgg199
  z32 := Tryz.sizeOf199
  v32 := Tryz.zeroValue199
  t35 := Tryz.underlying236
  a35 := Tryz.isAgg236
  z35 := Tryz.sizeOf236
  v35 := Tryz.zeroValue236
  t36 := Tryz.underlying237
  a36 := Tryz.isAgg237
  z36 := Tryz.sizeOf237
  v36 := Tryz.zeroValue237
  t41 := Tryz.underlying120
  a41 := Tryz.isAgg120
  z41 := Tryz.sizeOf120
  v41 := Tryz.zeroValue120
  t44 := Tryz.underlying244
  a44 := Tryz.isAgg244
  z44 := Tryz.sizeOf244
  v44 := Tryz.zeroValue244
  t46 := Tryz.underlying246
  a46 := Tryz.isAgg246
  z46 := Tryz.sizeOf246
  v46 := Tryz.zeroValue246
  t53 := Tryz.underlying249
  a53 := Tryz.isAgg249
  z53 := Tryz.sizeOf249
  v53 := Tryz.zeroValue249
  t57 := Tryz.underlying253
  a57 := Tryz.isAgg253
  z57 := Tryz.sizeOf253
  v57 := Tryz.zeroValue253
  t63 := Tryz.underlying256
  a63 := Tryz.isAgg256
  z63 := Tryz.sizeOf256
  v63 := Tryz.zeroValue256
  t64 := Tryz.underlying257
  a64 := Tryz.isAgg257
  z64 := Tryz.sizeOf257
  v64 := Tryz.zeroValue257 }

/-- slices.Sort's two contracts at this dump, at the fence that asks nothing. -/
theorem sortsA (m : Nat) : AnyZI.SortsIn Tryz.prog Tryz.sortedA_ren Fence.wide m :=
  ⟨fun blk off cap ss W hH hblk hsz => callsIn_wide.2 (AnyM.slices_Sort_int Tryz.sortA blk off cap ss W hH hblk hsz),
   fun p cap W => callsIn_wide.2 (AnyM.slices_Sort_int_none Tryz.sortA p cap W)⟩

theorem keys_any (mb : Option Nat) (W : World) : Calls Tryz.prog 142 #[.map mb] W fun e w' => e = .returned (.func (.func 159) #[] #[.pointer (some ⟨W.heap.size, 0, none⟩)]) ∧ w' = W.alloc (.cells #[.map mb] 80) :=
  (callsIn_wide (n := 5)).1 (AnyZI.keys_in Tryz.keysA Fence.wide 5 trivial rfl mb W)

set_option maxHeartbeats 1000000 in
theorem sortedKeys_any {H : Type} (b nn : Nat) (D0 : DataW H) (R : Value → Option (DataW H × List MemPlace)) (w : World) (hown : w.ownsMap Tryz.prog 3 R b nn D0) (hmax : Maps.size D0 ≤ maxLen) (hbytes : Maps.size D0 * 8 ≤ 140737488355328) :
    Calls Tryz.prog 141 #[.func (.func 159) #[] #[.pointer (some ⟨w.heap.size, 0, none⟩)]] (w.alloc (.cells #[.map (some b)] 80)) fun e w' => ∃ (v : Value) (ss : List Int), e = .returned v ∧ ss.Perm (intKeys D0) ∧
      w'.ownsRow (w.heap.size + 1) 3 1 v ss.length ((ss.mergeSort (fun x y => decide (x ≤ y))).map encZ) ∧ (v = .slice none 0 0 ↔ ss = []) ∧ Below (w.heap.size + 1) (w.alloc (.cells #[.map (some b)] 80)) w' := by
  refine (callsIn_wide (n := 5)).1 ?_
  have hbl := hown.lt
  have hseq : SeqGives Fence.wide 2 Tryz.prog 159 #[.pointer (some ⟨w.heap.size, 0, none⟩)] encZ (fun ss => ss.Perm (intKeys D0)) (Maps.size D0) (w.alloc (.cells #[.map (some b)] 80)) :=
    AnyZI.keys_gives (ρ := Tryz.keysA_ren) { Tryz.keysA with } Fence.wide _ trivial rfl (by omega) w.heap.size b nn D0 _ (by simp) (by simp) (by
      obtain ⟨es, clock, hb, Ft, hs, hD⟩ := hown
      exact ⟨es, clock, (Below.heap_alloc _ _ b hbl).trans hb, Ft, hs, hD⟩)
  have cS := AnyZI.sorted_in Tryz.sortedA Fence.wide 5 trivial trivial trivial trivial rfl (by omega) (sortsA _) (enters_of Tryz.func158 (by kernel_rfl) rfl) 159 #[.pointer (some ⟨w.heap.size, 0, none⟩)] trivial (enters_of Tryz.func159 (by kernel_rfl) rfl) _ _ hmax hbytes _ hseq
  change CallsIn _ _ Tryz.prog 141 _ _ _ at cS
  refine cS.mono ?_
  rintro e w' ⟨v, ss, rfl, h1, h2, h3, h4⟩
  rw [World.size_alloc] at h2 h4
  exact ⟨v, ss, rfl, h1, h2, h3, h4⟩

end Go.Proofs.YtnmcgmpmcliinaaGreat

namespace Go.Proofs.YtnmcgmpmcliinaaGreat
open Go.RowKit Go.Maps

/-- rising -/
def Rising (L : List Int) : Prop := L.Pairwise (fun x y => x < y)

theorem sorted_of (V : List Int) (hn : V.Nodup) : Rising (V.mergeSort leI) ∧ ∀ x, x ∈ V.mergeSort leI ↔ x ∈ V := by
  have tr : ∀ a b c : Int, leI a b = true → leI b c = true → leI a c = true := fun a b c h1 h2 => by simp only [leI, decide_eq_true_eq] at *; exact Int.le_trans h1 h2
  have to : ∀ a b : Int, (leI a b || leI b a) = true := fun a b => by simp only [leI, Bool.or_eq_true, decide_eq_true_eq]; exact Int.le_total a b
  have h1 := List.pairwise_mergeSort tr to V
  have h2 : (V.mergeSort leI).Nodup := (List.mergeSort_perm V leI).nodup_iff.2 hn
  refine ⟨?_, fun x => (List.mergeSort_perm V leI).mem_iff⟩
  unfold Rising
  have h3 := List.Pairwise.and h1 h2
  refine h3.imp ?_
  intro a b h
  have ha := h.1
  simp only [leI, decide_eq_true_eq] at ha
  have := h.2
  omega

/-- what Reach answers: a list in new memory -/
def ListAt (base : Nat) (w : World) (v : Value) (L : List Int) : Prop := w.ownsRow base 3 1 v L.length (L.map (Value.int .i64)) ∧ ∀ x ∈ L, (Lit.int .i64 x).wf = true

/-- what Reach refuses not -/
def Reachable (n : Nat) (B : Nat → Blk) (l : List Int) : Prop := Right n B ∧ RootsOk n B l

def RetR (base : Nat) (e : Ending) (w : World) (n : Nat) (B : Nat → Blk) (l : List Int) : Prop :=
  (∃ e', e = .returned (.tuple #[.slice none 0 0, .int .i64 e']) ∧ e' ≠ 0 ∧ ¬ Reachable n B l) ∨
  (Reachable n B l ∧ ∃ v L, e = .returned (.tuple #[v, .int .i64 0]) ∧ ListAt base w v L ∧ Rising L ∧ ∀ x, x ∈ L ↔ Clo B l x)

theorem size_of_perm {D : DataW Unit} {V : List Int} (hD : IsMap D) (h : V.Perm (intKeys D)) : Maps.size D = V.length := by
  obtain ⟨es, rfl⟩ := hD
  rw [h.length_eq]
  simp [intKeys, Maps.size]

theorem seen_new (w : World) : Seen (w.alloc (.map #[] 0)) w.heap.size [] :=
  ⟨.map [], World.ownsMap_made _ _ _ _, ⟨[], rfl⟩, List.nodup_nil, fun x => by simp [has], fun x hx => by simp at hx⟩

set_option maxHeartbeats 4000000 in
set_option maxRecDepth 100000 in
theorem reach_any (p : Addr) (a : Option Addr) (n c : Nat) (B : Nat → Blk) (la : Option Addr) (ln lc : Nat) (l : List Int) (w : World) (h : PtrAt w p a n c B) (hl : NumsAt (fun _ => True) .i64 w la ln l) (hln : ln < 9223372036854775807) :
    Calls Tryz.prog 102 #[.pointer (some p), .slice la ln lc] w fun e w' => RetR w.heap.size e w' n B l ∧ Below w.heap.size w w' := by
  have hmm := @run_makeMap Tryz.prog
  have hmf : ∀ (fn : Fn) (first cap : Array Value) (w : World), (Instr.makeFunc fn first cap).run Tryz.prog w = .ok (.func fn first cap) w := fun _ _ _ _ => rfl
  have b0 := below_alloc w (.cells #[.pointer (some p)] 70)
  have k0 : CellsAt _ w.heap.size #[.pointer (some p)] 70 := cellsAt_alloc w _ _
  replace h := h.below b0
  replace hl := hl.below b0
  go_enter Tryz.func102, Tryz.ntmps102
  go_wp2_with fail
  generalize w.alloc (.cells #[.pointer (some p)] 70) = w0 at *
  refine (check_any p a n c B w0 h).mono ?_
  rintro e w1 ⟨⟨e', rfl, he⟩, b1⟩
  replace h := h.below b1
  replace hl := hl.below b1
  replace k0 := k0.below b1
  replace b1 := Below.tr b0 b1
  have s0 := k0.cell 0
  simp at s0
  replace he := hid he
  clear b0
  by_cases h0 : e' = 0
  · have h0' : (e' == 0) = true := by simp [h0]
    have hR := he.out.1 h0
    have hn := hR.small
    have q0 := h.cell
    replace hR := hid hR
    replace hl := hid hl
    replace h := hid h
    replace k0 := hid k0
    go_wp2_with fail
    go_loopw [18] (fun v wr => ∃ j : Nat, j ≤ ln ∧ v = .int .i64 j ∧ (∀ r ∈ l.take j, r = 0 ∨ There n B r) ∧ wr = w1) (fun v _ => ln - (Go.RowKit.intOf v).toNat)
    case atStart => exact ⟨0, Nat.zero_le _, rfl, by simp, rfl⟩
    case round =>
      obtain ⟨j, hjn, rfl, hok, rfl⟩ := hrel
      by_cases hlt : j < ln
      · obtain ⟨kb, ko, rfl, hkb, _, hc⟩ := hl.out.2.2 (by omega)
        have hck := hc j hlt
        have hjl : j < l.length := by rw [hl.out.1]; exact hlt
        have hmem : Hid (l.getD j 0 ∈ l) := hid (hl.out.getD hlt)
        have hstep : Hid ((l.getD j 0 = 0 ∨ There n B (l.getD j 0)) → ∀ r ∈ l.take (j + 1), r = 0 ∨ There n B r) := hid (fun hx r hr => by
          rw [take_snoc hjl] at hr
          rcases List.mem_append.1 hr with hr | hr
          · exact hok r hr
          · simp only [List.mem_singleton] at hr
            rw [hr]; exact hx)
        clear hc hjl hok
        generalize l.getD j 0 = x at *
        by_cases hx0 : x = 0
        · have hx0' : (x == 0) = true := by simp [hx0]
          go_wp2_with fail
          go_roundw
          case rel => exact ⟨j + 1, by omega, by go_num, hstep.out (.inl hx0), trivial⟩
          case measure => simp [Go.RowKit.intOf]; omega
        · have hx0' : (x == 0) = false := by simp [hx0]
          go_wp2_with fail
          refine (there_any p a n c B x _ hn q0 h.out.store).mono ?_
          rintro e w2 ⟨⟨t, rfl, ht⟩, rfl⟩
          replace ht := hid ht
          cases t
          · go_wp2_with fail
            go_ret2
            exact ⟨.inl ⟨5, rfl, by omega, fun f => by
              rcases f.2 x hmem.out with h1 | h1
              · exact hx0 h1
              · simpa using ht.out.2 h1⟩, b1⟩
          · go_wp2_with fail
            go_roundw
            case rel => exact ⟨j + 1, by omega, by go_num, hstep.out (.inr (by simpa using ht.out)), trivial⟩
            case measure => simp [Go.RowKit.intOf]; omega
      · obtain rfl : j = ln := by omega
        have hok' : Hid (RootsOk n B l) := hid (by
          intro r hr
          rw [← List.take_of_length_le (l := l) (i := j) (by rw [hl.out.1]; exact Nat.le_refl _)] at hr
          exact hok r hr)
        clear hok
        go_wp2_with fail
        have bM := below_alloc wr (.map #[] 0)
        have bA := (bM.alloc (by simp) (.cells #[.map (some wr.heap.size)] 80)).alloc (by simp; omega) (.cells #[.func (.func 140) #[] #[.pointer (some ⟨wr.heap.size + 1, 0, none⟩), .pointer (some ⟨wr.heap.size + 1 + 1, 0, none⟩), .pointer (some ⟨w.heap.size, 0, none⟩)]] 203)
        have kM : CellsAt _ (wr.heap.size + 1) #[.map (some wr.heap.size)] 80 := (cellsAt_alloc2 wr (.map #[] 0) _ _).below (below_alloc _ (.cells #[.func (.func 140) #[] #[.pointer (some ⟨wr.heap.size + 1, 0, none⟩), .pointer (some ⟨wr.heap.size + 1 + 1, 0, none⟩), .pointer (some ⟨w.heap.size, 0, none⟩)]] 203))
        have kL := cellsAt_alloc3 wr (.map #[] 0) (.cells #[.map (some wr.heap.size)] 80) #[.func (.func 140) #[] #[.pointer (some ⟨wr.heap.size + 1, 0, none⟩), .pointer (some ⟨wr.heap.size + 1 + 1, 0, none⟩), .pointer (some ⟨w.heap.size, 0, none⟩)]] 203
        have hSe := (seen_new wr).out (w' := ((wr.alloc (.map #[] 0)).alloc (.cells #[.map (some wr.heap.size)] 80)).alloc (.cells #[.func (.func 140) #[] #[.pointer (some ⟨wr.heap.size + 1, 0, none⟩), .pointer (some ⟨wr.heap.size + 1 + 1, 0, none⟩), .pointer (some ⟨w.heap.size, 0, none⟩)]] 203)) (by rw [Below.heap_alloc _ _ _ (by simp; omega), Below.heap_alloc _ _ _ (by simp)])
        have hRE : RE wr (((wr.alloc (.map #[] 0)).alloc (.cells #[.map (some wr.heap.size)] 80)).alloc (.cells #[.func (.func 140) #[] #[.pointer (some ⟨wr.heap.size + 1, 0, none⟩), .pointer (some ⟨wr.heap.size + 1 + 1, 0, none⟩), .pointer (some ⟨w.heap.size, 0, none⟩)]] 203)) (wr.heap.size + 1) (wr.heap.size + 1 + 1) w.heap.size := ⟨bA, kM, kL, by omega, by omega⟩
        generalize ((wr.alloc (.map #[] 0)).alloc (.cells #[.map (some wr.heap.size)] 80)).alloc (.cells #[.func (.func 140) #[] #[.pointer (some ⟨wr.heap.size + 1, 0, none⟩), .pointer (some ⟨wr.heap.size + 1 + 1, 0, none⟩), .pointer (some ⟨w.heap.size, 0, none⟩)]] 203) = w2 at *
        refine (walk_any wr p a n c B w.heap.size (wr.heap.size + 1) (wr.heap.size + 1 + 1) h.out s0 k0.out.lt hR.out 4 l la j lc [] w2 hl.out (fun x hx => by
          rcases hok'.out x hx with h1 | h1
          · exact .inl h1
          · have := (hR.out.one _ (ix h1.1 h1.2.1).1).bounds
            exact .inr ⟨h1, by omega⟩) (by simp) hRE hSe hln).mono ?_
        rintro e w3 ⟨rfl, V, hE, hS, hG⟩
        have m0 := hE.m.cell 0
        simp at m0
        have hb3 := hE.bel
        obtain ⟨D, hown, hD, hnd, hm, hat⟩ := hS
        have hperm : V.Perm (intKeys D) := CollectedI.perm (left := fun _ => false) ⟨hnd, fun x => by simp [hm x]⟩ hown law3 Tryz.underlying3 (fun _ => rfl)
        have hlen : V.length ≤ n := pigeon n V hnd (fun y hy => ⟨(hG.there y hy).1, (hG.there y hy).2.1⟩)
        have hsize := size_of_perm hD hperm
        have hmemL : Hid (∀ x, x ∈ V ↔ Clo B l x) := hid (fun x => ⟨fun hx => (hG.clo x hx).resolve_left (by simp), fun hx => hx (fun y => y ∈ V) hG.all (fun y hy k hk h0 => hG.shut y hy (by simp) k hk h0)⟩)
        have hthere := hid hG.there
        replace hperm := hid hperm
        replace hnd := hid hnd
        replace hb3 := hid hb3
        replace hown := hid hown
        clear hE hG hm hat hSe hRE bA bM kM kL hD
        go_wp2_with fail
        refine (keys_any (some wr.heap.size) w3).mono ?_
        rintro e w4 ⟨rfl, rfl⟩
        go_wp2_with fail
        refine (sortedKeys_any wr.heap.size V.length D _ w3 hown.out (by rw [hsize]; unfold maxLen; omega) (by rw [hsize]; omega)).mono ?_
        rintro e w5 ⟨v, ss, rfl, hss, hrow, hnil, b5⟩
        have hsort : ss.mergeSort (fun x y => decide (x ≤ y)) = V.mergeSort leI := mergeSort_of_perm_i (hss.trans hperm.out.symm)
        have hslen : ss.length = (V.mergeSort leI).length := by rw [← hsort]; simp
        rw [hsort, hslen] at hrow
        have bT : Below w.heap.size w w5 := (Below.tr b1 hb3.out).trans ((below_alloc w3 (.cells #[.map (some wr.heap.size)] 80)).trans (b5.mono (by omega)) |>.mono (by have := (Below.tr b1 hb3.out).size; omega))
        have hsz : w.heap.size ≤ w3.heap.size := (Below.tr b1 hb3.out).size
        replace hrow := hid hrow
        clear hss hsort hslen hnil b5
        go_wp2_with fail
        go_ret2
        refine ⟨.inr ⟨⟨hR.out, hok'.out⟩, v, V.mergeSort leI, rfl, ⟨ownsRow_base (by omega) hrow.out, fun x hx => ?_⟩, (sorted_of V hnd.out).1, fun x => ((sorted_of V hnd.out).2 x).trans (hmemL.out x)⟩, bT⟩
        have h1 := hthere.out x (((sorted_of V hnd.out).2 x).1 hx)
        exact WalkArith.wf_i64 (by have := h1.1; have := h1.2.1; omega)
  · have h0' : (e' == 0) = false := by simp [h0]
    go_wp2_with fail
    go_ret2
    exact ⟨.inl ⟨e', rfl, h0, fun f => h0 (he.out.2 f.1)⟩, b1⟩

set_option maxHeartbeats 1000000 in
theorem storeReach_any (a : Option Addr) (n c : Nat) (B : Nat → Blk) (la : Option Addr) (ln lc : Nat) (l : List Int) (w : World) (h : StoreAt w a n B) (hl : NumsAt (fun _ => True) .i64 w la ln l) (hln : ln < 9223372036854775807) :
    Calls Tryz.prog 65 #[.agg #[.slice a n c], .slice la ln lc] w fun e w' => RetR w.heap.size e w' n B l ∧ Below w.heap.size w w' := by
  go_enter Tryz.func65, Tryz.ntmps65
  go_wp2_with fail
  refine (reach_any _ a n c B la ln lc l _ (ptr_boxed a n c B w _ h) (hl.below (below_alloc _ _)) hln).mono ?_
  rintro e w1 ⟨⟨e', rfl, he, hR⟩ | ⟨hR, v, L, rfl, hL, hr, hm⟩, b1⟩
  · replace hR := hid hR
    go_wp2_with fail
    go_ret2
    exact ⟨.inl ⟨e', rfl, he, hR.out⟩, Below.tr (below_alloc _ _) b1⟩
  · replace hR := hid hR
    replace hL := hid hL
    replace hr := hid hr
    replace hm := hid hm
    go_wp2_with fail
    go_ret2
    exact ⟨.inr ⟨hR.out, v, L, rfl, ⟨ownsRow_base (by simp) hL.out.1, hL.out.2⟩, hr.out, hm.out⟩, Below.tr (below_alloc _ _) b1⟩

end Go.Proofs.YtnmcgmpmcliinaaGreat

namespace Go.Proofs.YtnmcgmpmcliinaaGreat
open Go.RowKit

/-- the addresses, rising, of those of the first places of which p holds -/
def heldL (p : Nat → Bool) : Nat → List Int
  | 0 => []
  | i + 1 => heldL p i ++ (if p i then [(i : Int) + 1] else [])
theorem heldL_length (p : Nat → Bool) : ∀ i, (heldL p i).length ≤ i
  | 0 => by simp [heldL]
  | i + 1 => by
    have := heldL_length p i
    unfold heldL
    split <;> simp <;> omega
theorem mem_heldL (p : Nat → Bool) (x : Int) : ∀ i, x ∈ heldL p i ↔ ∃ k, k < i ∧ p k = true ∧ x = (k : Int) + 1
  | 0 => by simp [heldL]
  | i + 1 => by
    unfold heldL
    rw [List.mem_append, mem_heldL p x i]
    constructor
    · rintro (⟨k, hk, h⟩ | h)
      · exact ⟨k, by omega, h⟩
      · by_cases hp : p i = true
        · rw [if_pos hp] at h
          exact ⟨i, by omega, hp, by simpa using h⟩
        · rw [if_neg hp] at h
          cases h
    · rintro ⟨k, hk, hp, h⟩
      by_cases e : k = i
      · subst e
        right
        rw [if_pos hp]
        simpa using h
      · exact .inl ⟨k, by omega, hp, h⟩
theorem heldL_wf (p : Nat → Bool) (i : Nat) (hi : i ≤ 400) : ∀ x ∈ heldL p i, (Lit.int .i64 x).wf = true := by
  intro x hx
  obtain ⟨k, hk, _, rfl⟩ := (mem_heldL p x i).1 hx
  exact WalkArith.wf_i64 (by omega)

end Go.Proofs.YtnmcgmpmcliinaaGreat

namespace Go.Proofs.YtnmcgmpmcliinaaGreat

/-- where both are there they say the same -/
def Like (n : Nat) (B C : Nat → Blk) : Prop := ∀ i, i < n → (B i).refs = 0 ∨ (C i).refs = 0 ∨ ((B i).level = (C i).level ∧ (B i).kids = (C i).kids ∧ (B i).bytes = (C i).bytes)
theorem Like.symm {n : Nat} {B C : Nat → Blk} (h : Like n B C) : Like n C B := fun i hi => by
  rcases h i hi with h | h | ⟨h1, h2, h3⟩
  · exact .inr (.inl h)
  · exact .inl h
  · exact .inr (.inr ⟨h1.symm, h2.symm, h3.symm⟩)

theorem blk_ext {b c : Blk} (h0 : b.refs = c.refs) (h1 : b.level = c.level) (h2 : b.kids = c.kids) (h3 : b.bytes = c.bytes) : b = c := by
  cases b; cases c; simp_all

theorem kid_of {n : Nat} {B : Nat → Blk} (hR : Right n B) {i j : Nat} (hj : j < n) (hm : ((i : Int) + 1) ∈ (B j).kids) : (B i).refs ≠ 0 ∧ (B j).level = (B i).level + 1 ∧ (B j).refs ≠ 0 := by
  have hl := (hR.one j hj).live hm
  rcases (hR.one j hj).kids _ hm with h | ⟨⟨_, _, h1⟩, h2⟩
  · omega
  · rw [show ((i : Int) + 1 - 1).toNat = i by omega] at h1 h2
    exact ⟨h1, by omega, by omega⟩

theorem same_step {n : Nat} {B C : Nat → Blk} (hB : Right n B) (hC : Right n C) (hL : Like n B C) (ho : ∀ i, i < n → outs n B i = outs n C i) (l : Int)
    (hb : ∀ j, j < n → l + 1 ≤ (B j).level → (B j).refs ≠ 0 → B j = C j) (hc : ∀ j, j < n → l + 1 ≤ (C j).level → (C j).refs ≠ 0 → B j = C j) :
    ∀ i, i < n → l ≤ (B i).level → (B i).refs ≠ 0 → B i = C i := by
  intro i hi hl hr
  have hcount : among n B ((i : Int) + 1) = among n C ((i : Int) + 1) := sumTo_congr fun j hj => by
    by_cases h1 : ((i : Int) + 1) ∈ (B j).kids
    · obtain ⟨_, h2, h3⟩ := kid_of hB hj h1
      show (B j).kids.count _ = (C j).kids.count _
      rw [hb j hj (by omega) h3]
    · by_cases h2 : ((i : Int) + 1) ∈ (C j).kids
      · obtain ⟨h3, h4, h5⟩ := kid_of hC hj h2
        have h6 : (B i).level = (C i).level := by
          rcases hL i hi with h | h | ⟨h, _⟩
          · exact absurd h hr
          · exact absurd h h3
          · exact h
        show (B j).kids.count _ = (C j).kids.count _
        rw [hc j hj (by omega) h5]
      · show (B j).kids.count _ = (C j).kids.count _
        rw [List.count_eq_zero.2 h1, List.count_eq_zero.2 h2]
  have h1 := ho i hi
  unfold outs at h1
  rw [hcount] at h1
  have h2 : (B i).refs = (C i).refs := by omega
  rcases hL i hi with h | h | ⟨h3, h4, h5⟩
  · exact absurd h hr
  · omega
  · exact blk_ext h2 h3 h4 h5

theorem same_of {n : Nat} {B C : Nat → Blk} (hB : Right n B) (hC : Right n C) (hL : Like n B C) (ho : ∀ i, i < n → outs n B i = outs n C i) : ∀ i, i < n → B i = C i := by
  have step : ∀ d : Nat, d ≤ 4 → (∀ i, i < n → (4 : Int) - d ≤ (B i).level → (B i).refs ≠ 0 → B i = C i) ∧ (∀ i, i < n → (4 : Int) - d ≤ (C i).level → (C i).refs ≠ 0 → B i = C i) := by
    intro d
    induction d with
    | zero =>
      intro _
      exact ⟨fun i hi hl _ => by have := (hB.one i hi).bounds; omega, fun i hi hl _ => by have := (hC.one i hi).bounds; omega⟩
    | succ d ih =>
      intro hd
      obtain ⟨h1, h2⟩ := ih (by omega)
      have h1' : ∀ j, j < n → ((4 : Int) - (d + 1 : Nat)) + 1 ≤ (B j).level → (B j).refs ≠ 0 → B j = C j := fun j hj hl => h1 j hj (by omega)
      have h2' : ∀ j, j < n → ((4 : Int) - (d + 1 : Nat)) + 1 ≤ (C j).level → (C j).refs ≠ 0 → B j = C j := fun j hj hl => h2 j hj (by omega)
      exact ⟨same_step hB hC hL ho _ h1' h2', fun i hi hl hr => (same_step hC hB hL.symm (fun i hi => (ho i hi).symm) _ (fun j hj a b => (h2' j hj a b).symm) (fun j hj a b => (h1' j hj a b).symm) i hi hl hr).symm⟩
  obtain ⟨h1, h2⟩ := step 4 (Nat.le_refl _)
  intro i hi
  by_cases hb : (B i).refs = 0
  · by_cases hc : (C i).refs = 0
    · rw [(hB.one i hi).zero hb, (hC.one i hi).zero hc]
    · have := (hC.one i hi).bounds
      exact h2 i hi (by omega) hc
  · have := (hB.one i hi).bounds
    exact h1 i hi (by omega) hb

theorem fell_like {n : Nat} {B C : Nat → Blk} {T : List Int} (h : Fell n B C T) : Like n C B := fun i hi => by
  rcases h.same i hi with h | ⟨_, _, h1, h2, h3⟩
  · exact .inl (by rw [h]; rfl)
  · exact .inr (.inr ⟨h1, h2, h3⟩)

theorem outs_free {n : Nat} {B : Nat → Blk} (hR : Right n B) {i : Nat} (hi : i < n) (h0 : (B i).refs = 0) : outs n B i = 0 := by
  have := hR.held i hi
  simp at this
  unfold outs
  omega

theorem made_small {n : Nat} {B : Nat → Blk} {K : Blk} {i : Nat} (hc : ∀ k, k < n → (B k).refs ≤ 999000) (hF : Form n B { K with refs := 1 }) : ∀ k, k < n → (made B K i k).refs ≤ 1000000 := by
  intro k hk
  by_cases e : k = i
  · subst e; rw [made_same]; show (1 : Int) ≤ 1000000; omega
  · rw [made_other _ _ e]
    have h1 := hc k hk
    have h2 : K.kids.count ((k : Int) + 1) ≤ K.kids.length := List.count_le_length
    have h3 : K.kids.length ≤ 4 := hF.few
    show (B k).refs + _ ≤ _
    omega

/-- what is made and let go was never there -/
theorem back_make {n : Nat} {B C : Nat → Blk} {K : Blk} {i : Nat} (hR : Right n B) (hF : Form n B { K with refs := 1 }) (hi : i < n) (h0 : (B i).refs = 0) (hC : Right n C) (hD : Fell n (made B K i) C [(i : Int) + 1]) : ∀ k, k < n → C k = B k := by
  refine same_of hC hR (fun k hk => ?_) fun k hk => ?_
  · rcases fell_like hD k hk with h | h | ⟨h1, h2, h3⟩
    · exact .inl h
    · by_cases e : k = i
      · subst e; exact .inr (.inl h0)
      · rw [made_other _ _ e] at h
        have h1 := (hR.one k hk).bounds
        have h2 : (B k).refs + (K.kids.count ((k : Int) + 1) : Int) = 0 := h
        exact .inr (.inl (by omega))
    · by_cases e : k = i
      · subst e; exact .inr (.inl h0)
      · rw [made_other _ _ e] at h1 h2 h3
        exact .inr (.inr ⟨h1, h2, h3⟩)
  · rw [hD.outs k hk, outs_made hR hF hi h0 k hk]
    by_cases e : k = i
    · subst e
      rw [if_pos rfl, outs_free hR hk h0, List.count_cons_self]
      simp
    · rw [if_neg e, List.count_cons_of_ne (by omega)]
      simp

theorem sumTo_one' {f g : Nat → Nat} {i : Nat} : ∀ {n : Nat}, i < n → (∀ j, j < n → j ≠ i → f j = g j) → sumTo f n + g i = sumTo g n + f i
  | n + 1, hi, h => by
    simp only [sumTo]
    by_cases e : i = n
    · subst e
      rw [sumTo_congr (f := f) (g := g) (fun j hj => h j (by omega) (by omega))]; omega
    · have := sumTo_one' (f := f) (g := g) (n := n) (i := i) (by omega) (fun j hj => h j (by omega))
      rw [h n (by omega) (by omega)]; omega

theorem used_made {n : Nat} {B : Nat → Blk} {K : Blk} {i : Nat} (hR : Right n B) (hF : Form n B { K with refs := 1 }) (hi : i < n) (h0 : (B i).refs = 0) : usedTo (made B K i) n = usedTo B n + 1 := by
  have := sumTo_one' (f := fun k => if 0 < (made B K i k).refs then 1 else 0) (g := fun k => if 0 < (B k).refs then 1 else 0) (i := i) hi (fun j hj hne => by
    rw [made_other _ _ hne]
    show (if 0 < (B j).refs + (K.kids.count ((j : Int) + 1) : Int) then 1 else 0) = _
    have hb := (hR.one j hj).bounds
    by_cases e : (B j).refs = 0
    · rw [kid_free hF e, e]; simp
    · rw [if_pos (by omega), if_pos (by omega)])
  have e1 : (made B K i i).refs = 1 := by rw [made_same]
  simp only [e1, h0] at this
  unfold usedTo
  simpa using this

theorem kept_same {B : Nat → Blk} {i : Nat} : keptB B ((i : Int) + 1) i = { B i with refs := (B i).refs + 1 } := by
  unfold keptB
  rw [show ((i : Int) + 1 - 1).toNat = i by omega, upd_same]
theorem kept_other {B : Nat → Blk} {i k : Nat} (h : k ≠ i) : keptB B ((i : Int) + 1) k = B k := by
  unfold keptB
  rw [show ((i : Int) + 1 - 1).toNat = i by omega, upd_other _ _ _ _ h]
theorem among_kept {n : Nat} {B : Nat → Blk} {i : Nat} (x : Int) : among n (keptB B ((i : Int) + 1)) x = among n B x := among_congr x fun k _ => by
  by_cases e : k = i
  · subst e; rw [kept_same]
  · rw [kept_other e]
theorem outs_kept {n : Nat} {B : Nat → Blk} {i : Nat} (k : Nat) : outs n (keptB B ((i : Int) + 1)) k = if k = i then outs n B k + 1 else outs n B k := by
  unfold outs
  rw [among_kept]
  by_cases e : k = i
  · subst e; rw [kept_same, if_pos rfl]; show (B k).refs + 1 - _ = _; omega
  · rw [kept_other e, if_neg e]
theorem right_kept {n : Nat} {B : Nat → Blk} {i : Nat} (hR : Right n B) (hi : i < n) (h0 : (B i).refs ≠ 0) (hm : (B i).refs ≤ 999000) : Right n (keptB B ((i : Int) + 1)) := by
  have hth : ∀ x, There n B x → There n (keptB B ((i : Int) + 1)) x ∧ (keptB B ((i : Int) + 1) (x - 1).toNat).level = (B (x - 1).toNat).level := by
    intro x ⟨x1, x2, x3⟩
    by_cases e : (x - 1).toNat = i
    · have hb := (hR.one i hi).bounds
      rw [e, kept_same]
      refine ⟨⟨x1, x2, ?_⟩, rfl⟩
      rw [e, kept_same]
      show (B i).refs + 1 ≠ 0
      omega
    · rw [kept_other e]
      exact ⟨⟨x1, x2, by rw [kept_other e]; exact x3⟩, rfl⟩
  refine ⟨hR.small, fun k hk => ?_, fun k hk => ?_, by simp⟩
  · by_cases e : k = i
    · subst e
      rw [kept_same]
      have hb := (hR.one k hk).bounds
      exact (hR.one k hk).turn rfl rfl rfl (.inr ⟨h0, by show 1 ≤ (B k).refs + 1; omega, by show (B k).refs + 1 ≤ 1000000; omega⟩) fun x _ => hth x
    · rw [kept_other e]
      exact (hR.one k hk).turn rfl rfl rfl (.inl rfl) fun x _ => hth x
  · rw [among_kept]
    have h1 := hR.held k hk
    simp at h1 ⊢
    by_cases e : k = i
    · subst e; rw [kept_same]; show _ ≤ (B k).refs + 1; omega
    · rw [kept_other e]; exact h1
/-- what is held and let go was never held -/
theorem back_keep {n : Nat} {B C : Nat → Blk} {i : Nat} (hR : Right n B) (hi : i < n) (h0 : (B i).refs ≠ 0) (hC : Right n C) (hD : Fell n (keptB B ((i : Int) + 1)) C [(i : Int) + 1]) : ∀ k, k < n → C k = B k := by
  refine same_of hC hR (fun k hk => ?_) fun k hk => ?_
  · rcases fell_like hD k hk with h | h | ⟨h1, h2, h3⟩
    · exact .inl h
    · by_cases e : k = i
      · subst e
        rw [kept_same] at h
        have hb := (hR.one k hk).bounds
        have h2 : (B k).refs + 1 = 0 := h
        omega
      · rw [kept_other e] at h; exact .inr (.inl h)
    · by_cases e : k = i
      · subst e; rw [kept_same] at h1 h2 h3; exact .inr (.inr ⟨h1, h2, h3⟩)
      · rw [kept_other e] at h1 h2 h3; exact .inr (.inr ⟨h1, h2, h3⟩)
  · rw [hD.outs k hk, outs_kept]
    by_cases e : k = i
    · subst e; rw [if_pos rfl, List.count_cons_self]; simp
    · rw [if_neg e, List.count_cons_of_ne (by omega)]; simp
theorem drop_kept {n : Nat} {B : Nat → Blk} {i : Nat} (hR : Right n B) (hi : i < n) (h0 : (B i).refs ≠ 0) (hm : (B i).refs ≤ 999000) : Droppable n (keptB B ((i : Int) + 1)) ((i : Int) + 1) := by
  refine droppable_of (right_kept hR hi h0 hm) hi ?_
  rw [outs_kept, if_pos rfl]
  have := hR.held i hi
  simp at this
  unfold outs
  omega

/-- behind a Drop what is still held from outside is there, and all that is below -/
theorem roots_behind {n : Nat} {B C : Nat → Blk} {a : Int} {l : List Int} (hC : Right n C) (hD : Fell n B C [a]) (hl : ∀ x ∈ l, ∃ k, k < n ∧ x = (k : Int) + 1 ∧ 0 < outs n B k - (([a] : List Int).count ((k : Int) + 1) : Int)) : RootsOk n C l := by
  intro r hr
  obtain ⟨k, hk, rfl, h⟩ := hl r hr
  refine .inr ⟨by omega, by omega, ?_⟩
  rw [show ((k : Int) + 1 - 1).toNat = k by omega]
  have h1 := hD.outs k hk
  unfold outs at h1 h
  omega
theorem fell_content {n : Nat} {B C : Nat → Blk} {T : List Int} (hD : Fell n B C T) {x : Int} (hx : There n C x) : (C (x - 1).toNat).level = (B (x - 1).toNat).level ∧ (C (x - 1).toNat).kids = (B (x - 1).toNat).kids ∧ (C (x - 1).toNat).bytes = (B (x - 1).toNat).bytes := by
  rcases hD.same _ (ix hx.1 hx.2.1).1 with h | ⟨_, _, h⟩
  · exact absurd (by rw [h]; rfl) hx.2.2
  · exact h
theorem clo_behind {n : Nat} {B C : Nat → Blk} {T : List Int} {l : List Int} (hC : Right n C) (hD : Fell n B C T) (hl : RootsOk n C l) (x : Int) : (Clo B l x ↔ Clo C l x) := by
  constructor
  · intro h
    refine (h (fun y => There n C y ∧ Clo C l y) (fun r hr h0 => ⟨(hl r hr).resolve_left h0, Clo.root hr h0⟩) ?_).2
    rintro y ⟨hy, hc⟩ k hk h0
    rw [← (fell_content hD hy).2.1] at hk
    refine ⟨?_, hc.kid hk h0⟩
    rcases (hC.one _ (ix hy.1 hy.2.1).1).kids k hk with h | ⟨h, _⟩
    · exact absurd h h0
    · exact h
  · intro h
    refine (h (fun y => There n C y ∧ Clo B l y) (fun r hr h0 => ⟨(hl r hr).resolve_left h0, Clo.root hr h0⟩) ?_).2
    rintro y ⟨hy, hc⟩ k hk h0
    refine ⟨?_, hc.kid (by rw [← (fell_content hD hy).2.1]; exact hk) h0⟩
    rcases (hC.one _ (ix hy.1 hy.2.1).1).kids k hk with h | ⟨h, _⟩
    · exact absurd h h0
    · exact h
theorem rising_eq : ∀ {L M : List Int}, Rising L → Rising M → (∀ x, x ∈ L ↔ x ∈ M) → L = M
  | [], [], _, _, _ => rfl
  | [], y :: M, _, _, h => absurd ((h y).2 (by simp)) (by simp)
  | x :: L, [], _, _, h => absurd ((h x).1 (by simp)) (by simp)
  | x :: L, y :: M, hL, hM, h => by
    unfold Rising at hL hM
    rw [List.pairwise_cons] at hL hM
    have e : x = y := by
      have h1 := (h x).1 (by simp)
      have h2 := (h y).2 (by simp)
      rcases List.mem_cons.1 h1 with h1 | h1
      · exact h1
      · rcases List.mem_cons.1 h2 with h2 | h2
        · exact h2.symm
        · have := hM.1 x h1
          have := hL.1 y h2
          omega
    subst e
    rw [rising_eq (L := L) (M := M) hL.2 hM.2 (fun z => ?_)]
    constructor
    · intro hz
      rcases List.mem_cons.1 ((h z).1 (List.mem_cons_of_mem _ hz)) with h1 | h1
      · have := hL.1 z hz; omega
      · exact h1
    · intro hz
      rcases List.mem_cons.1 ((h z).2 (List.mem_cons_of_mem _ hz)) with h1 | h1
      · have := hM.1 z hz; omega
      · exact h1
end Go.Proofs.YtnmcgmpmcliinaaGreat
