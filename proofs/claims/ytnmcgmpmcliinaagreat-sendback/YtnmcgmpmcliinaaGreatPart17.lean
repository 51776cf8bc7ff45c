/-
  SetC, Shift, SetH in one text. Nothing here is trusted.
-/
import Derived.Test.YtnmcgmpmcliinaaGreatPart15
import Derived.Test.YtnmcgmpmcliinaaGreatPart16
import Derived.Test.YtnmcgmpmcliinaaGreatPart14
import Derived.Test.YtnmcgmpmcliinaaGreatPart12
import Derived.Test.YtnmcgmpmcliinaaGreatPart04
set_option linter.unusedVariables false
namespace Go.Proofs.YtnmcgmpmcliinaaGreat
open Go.RowKit

/-- the name of the one ahead -/
def Ahead {α : Type} (f : α → List UInt8) (l : List α) (j : Nat) (s : List UInt8) : Prop := (j = 0 ∧ s = []) ∨ ∃ x, l[j - 1]? = some x ∧ 0 < j ∧ s = f x
theorem ahead_next {α : Type} {f : α → List UInt8} {l : List α} {j : Nat} {x : α} (hx : l[j]? = some x) : Ahead f l (j + 1) (f x) := .inr ⟨x, hx, by omega, rfl⟩
theorem take_next {α : Type} {l : List α} {j : Nat} {x : α} (hx : l[j]? = some x) : l.take (j + 1) = l.take j ++ [x] := by
  rw [List.take_add_one, hx]; rfl
theorem order_next {α : Type} {f : α → List UInt8} {l : List α} {j : Nat} {x : α} {s : List UInt8} (hx : l[j]? = some x) (ho : (l.take j).Pairwise fun a b => f a < f b) (ha : Ahead f l j s) (hlt : s < f x) : (l.take (j + 1)).Pairwise fun a b => f a < f b := by
  rw [take_next hx, List.pairwise_append]
  refine ⟨ho, by simp, fun a ha' b hb => ?_⟩
  rw [List.mem_singleton.1 hb]
  obtain ⟨k, hk, rfl⟩ := List.mem_iff_getElem.1 ha'
  have hkj := hk
  rw [List.length_take] at hkj
  rcases ha with ⟨h0, _⟩ | ⟨y, hy, h0, rfl⟩
  · omega
  · obtain ⟨hy1, hy2⟩ := List.getElem?_eq_some_iff.1 hy
    by_cases e : k = j - 1
    · subst e
      rw [List.getElem_take, hy2]
      exact hlt
    · refine List.lt_trans ?_ hlt
      have := List.pairwise_iff_getElem.1 ho k (j - 1) hk (by rw [List.length_take]; omega) (by omega)
      rw [List.getElem_take (i := j - 1), hy2] at this
      exact this
theorem order_ahead {α : Type} {f : α → List UInt8} {l : List α} {j : Nat} {x : α} {s : List UInt8} (hx : l[j]? = some x) (ho : l.Pairwise fun a b => f a < f b) (ha : Ahead f l j s) (hn : 1 ≤ (f x).length) : s < f x := by
  obtain ⟨hj, rfl⟩ := List.getElem?_eq_some_iff.1 hx
  rcases ha with ⟨h0, rfl⟩ | ⟨y, hy, h0, rfl⟩
  · cases h : f l[j] with
    | nil => rw [h] at hn; simp at hn
    | cons a b => exact List.nil_lt_cons a b
  · obtain ⟨hy1, rfl⟩ := List.getElem?_eq_some_iff.1 hy
    exact List.pairwise_iff_getElem.1 ho (j - 1) j hy1 hj (by omega)

/-- what stands of the first j files -/
structure FilesTo (n : Nat) (B : Nat → Blk) (key : Int) (l : List Ent) (j : Nat) : Prop where
  names : ∀ x ∈ l.take j, IsName x.name
  order : (l.take j).Pairwise fun a b => a.nm < b.nm
  files : ∀ x ∈ l.take j, FileOk n B key x.root x.size
theorem FilesTo.next {n : Nat} {B : Nat → Blk} {key : Int} {l : List Ent} {j : Nat} {x : Ent} {s : List UInt8} (h : FilesTo n B key l j) (hx : l[j]? = some x) (ha : Ahead Ent.nm l j s) (hn : IsName x.name ∧ s < x.name.data.toList) (hf : FileOk n B key x.root x.size) : FilesTo n B key l (j + 1) := by
  refine ⟨fun y hy => ?_, order_next hx h.order ha hn.2, fun y hy => ?_⟩
  · rw [take_next hx] at hy
    rcases List.mem_append.1 hy with hy | hy
    · exact h.names y hy
    · rw [List.mem_singleton.1 hy]; exact hn.1
  · rw [take_next hx] at hy
    rcases List.mem_append.1 hy with hy | hy
    · exact h.files y hy
    · rw [List.mem_singleton.1 hy]; exact hf

set_option maxHeartbeats 2000000 in
set_option maxRecDepth 100000 in
theorem checkFiles_any (Q : Nat → Prop) (a : Option Addr) (n c : Nat) (B : Nat → Blk) (key : Int) (fa : Option Addr) (fn fc : Nat) (l : List Ent) (w : World) (h : StoreAt w a n B) (hE : EntsAt Q w fa fn l) :
    Calls Tryz.prog 52 #[.agg #[.slice a n c], .int .i64 key, .slice fa fn fc] w fun e w' => RetE e (FilesOk n B key l) ∧ Below w.heap.size w w' := by
  have b0 := below_alloc w (.cells #[.slice a n c] 24)
  have k0 : CellsAt _ w.heap.size #[.slice a n c] 24 := cellsAt_alloc w _ _
  have hl := hid hE.1
  replace h := hid (h.below b0)
  replace hE := hid (hE.below b0)
  replace k0 := hid k0
  go_enter Tryz.func52, Tryz.ntmps52
  by_cases h6 : (6 : Int) < (fn : Int)
  · go_wp2_with fail
    go_ret
    exact ⟨retE_no 2 (by omega) (fun f => by have := f.few; rw [hl.out] at this; omega), b0⟩
  · go_wp2_with fail
    generalize w.alloc (.cells #[.slice a n c] 24) = w0 at *
    go_loopw [7, 17] (fun u v wr => ∃ (j : Nat) (s : ByteArray), j ≤ fn ∧ v = .int .i64 j ∧ u = .string s ∧ Below w0.heap.size w0 wr ∧ Ahead Ent.nm l j s.data.toList ∧ FilesTo n B key l j) (fun _ v _ => fn - (Go.RowKit.intOf v).toNat)
    case atStart => exact ⟨0, ⟨#[]⟩, Nat.zero_le _, rfl, rfl, Below.refl _ _, .inl ⟨rfl, rfl⟩, by simp, by simp, by simp⟩
    case round =>
      obtain ⟨j, s, hj, rfl, rfl, hb, ha, hF⟩ := hrel
      replace ha := hid ha
      replace hF := hid hF
      by_cases hlt : j < fn
      · have hjl : j < l.length := by rw [hl.out]; exact hlt
        have hE' := hE.out.below hb
        obtain ⟨eb, off, rfl⟩ : ∃ b off, fa = some ⟨b, off, none⟩ := by
          obtain ⟨b, off, e, _⟩ := hE'.2.2 (by omega)
          exact ⟨b, off, e⟩
        have hx : l[j]? = some (l.getD j Ent.zero) := by rw [List.getElem?_eq_getElem hjl]; simp [List.getD, hjl]
        have hok := hE'.2.1 _ (hE'.getD hlt)
        have hA := hE'.ent hlt
        have c0 := hA.c0
        have c1 := hA.c1
        have c2 := hA.c2
        replace hx := hid hx
        have hsm := hok.1
        clear hA hE' hok hjl
        generalize l.getD j Ent.zero = x at *
        go_wp2_with fail
        have b1 := below_alloc wr (.cells #[.string x.name, .int .i64 x.root, .int .i64 x.size] 62)
        have k1 : CellsAt _ wr.heap.size #[.string x.name, .int .i64 x.root, .int .i64 x.size] 62 := cellsAt_alloc wr _ _
        clear c0 c1 c2
        replace hb := Below.tr hb b1
        generalize wr.alloc (.cells #[.string x.name, .int .i64 x.root, .int .i64 x.size] 62) = w1 at *
        refine (checkName_any s x.name w1 hsm).mono ?_
        rintro e w2 ⟨⟨e', rfl, he⟩, rfl⟩
        have q0 := k1.cell 0
        have q1 := k1.cell 1
        have q2 := k1.cell 2
        have s0 := (hb.cell (p := ⟨w.heap.size, 0, none⟩) k0.out.lt).trans (k0.out.cell 0)
        simp at q0 q1 q2 s0
        replace he := hid he
        replace k1 := hid k1
        by_cases h0 : e' = 0
        · have h0' : (e' == 0) = true := by simp [h0]
          have hN := hid (he.out.1 h0)
          go_wp2_with fail
          refine (fileCheck_any a n c B key x.root x.size w2 (h.out.below hb)).mono ?_
          rintro e w3 ⟨⟨e2, rfl, he2⟩, b3⟩
          have q3 := (b3.cell (p := ⟨wr.heap.size, 0, none⟩) k1.out.lt).trans q0
          replace he2 := hid he2
          replace hb := Below.tr hb b3
          clear q0 q1 q2 s0
          by_cases h2 : e2 = 0
          · have h2' : (e2 == 0) = true := by simp [h2]
            have hf := hid (he2.out.1 h2)
            go_wp2_with fail
            go_roundw
            case rel => exact ⟨j + 1, x.name, by omega, by go_num, rfl, hb, ahead_next (f := Ent.nm) hx.out, hF.out.next hx.out ha.out hN.out hf.out⟩
            case measure => simp [Go.RowKit.intOf]; omega
          · have h2' : (e2 == 0) = false := by simp [h2]
            go_wp2_with fail
            go_ret
            exact ⟨retE_no e2 h2 (fun f => h2 (he2.out.2 (f.files x (List.mem_of_getElem? hx.out)))), Below.tr b0 hb⟩
        · have h0' : (e' == 0) = false := by simp [h0]
          go_wp2_with fail
          go_ret
          exact ⟨retE_no e' h0 (fun f => h0 (he.out.2 ⟨f.names x (List.mem_of_getElem? hx.out), order_ahead (f := Ent.nm) hx.out f.order ha.out (f.names x (List.mem_of_getElem? hx.out)).1⟩)), Below.tr b0 hb⟩
      · obtain rfl : j = fn := by omega
        have e1 : l.take j = l := List.take_of_length_le (by rw [hl.out]; exact Nat.le_refl _)
        go_wp2_with fail
        go_ret
        refine ⟨retE_yes ⟨by rw [hl.out]; omega, ?_, ?_, ?_⟩, Below.tr b0 hb⟩
        · have := hF.out.names; rwa [e1] at this
        · have := hF.out.order; rwa [e1] at this
        · have := hF.out.files; rwa [e1] at this

/-- what stands of the first j snaps -/
structure SnapsTo (n : Nat) (B : Nat → Blk) (key : Int) (l : List SnapE) (j : Nat) : Prop where
  names : ∀ x ∈ l.take j, IsName x.name
  order : (l.take j).Pairwise fun a b => a.nm < b.nm
  files : ∀ x ∈ l.take j, FilesOk n B key x.files
theorem SnapsTo.next {n : Nat} {B : Nat → Blk} {key : Int} {l : List SnapE} {j : Nat} {x : SnapE} {s : List UInt8} (h : SnapsTo n B key l j) (hx : l[j]? = some x) (ha : Ahead SnapE.nm l j s) (hn : IsName x.name ∧ s < x.name.data.toList) (hf : FilesOk n B key x.files) : SnapsTo n B key l (j + 1) := by
  refine ⟨fun y hy => ?_, order_next hx h.order ha hn.2, fun y hy => ?_⟩
  · rw [take_next hx] at hy
    rcases List.mem_append.1 hy with hy | hy
    · exact h.names y hy
    · rw [List.mem_singleton.1 hy]; exact hn.1
  · rw [take_next hx] at hy
    rcases List.mem_append.1 hy with hy | hy
    · exact h.files y hy
    · rw [List.mem_singleton.1 hy]; exact hf

set_option maxHeartbeats 4000000 in
set_option maxRecDepth 100000 in
theorem setCheck_any (Q : Nat → Prop) (a : Option Addr) (n c : Nat) (B : Nat → Blk) (key : Int) (v : SetV) (x : SetE) (w : World) (h : StoreAt w a n B) (hX : SetAt Q w v x) :
    Calls Tryz.prog 18 #[.agg #[.slice a n c], .int .i64 key, v.val] w fun e w' => RetE e (SetOk n B key x) ∧ Below w.heap.size w w' := by
  obtain ⟨vn, fa, fn, fc, sa, sn, sc⟩ := v
  obtain ⟨hnm, hsm, hFi, hSn, hcap⟩ := hX
  simp only at hnm hFi hSn
  subst hnm
  unfold SetV.val
  simp only
  have b0 := below_two w (.cells #[.slice a n c] 24) (.cells #[.string x.name, .slice fa fn fc, .slice sa sn sc] 47)
  have k0 : CellsAt _ w.heap.size #[.slice a n c] 24 := (cellsAt_alloc w _ _).below (below_alloc _ (.cells #[.string x.name, .slice fa fn fc, .slice sa sn sc] 47))
  have k1 := cellsAt_alloc2 w (.cells #[.slice a n c] 24) #[.string x.name, .slice fa fn fc, .slice sa sn sc] 47
  have hsl := hid hSn.1
  replace h := hid (h.below b0)
  replace hFi := hid (hFi.below b0)
  replace hSn := hid (hSn.below b0)
  replace k0 := hid k0
  replace k1 := hid k1
  clear hcap
  go_enter Tryz.func18, Tryz.ntmps18
  go_wp2_with fail
  generalize (w.alloc (.cells #[.slice a n c] 24)).alloc (.cells #[.string x.name, .slice fa fn fc, .slice sa sn sc] 47) = w0 at *
  by_cases hk : keyB key 0 = true
  · have hkb := keyB_true hk
    refine (check_ok key 0 w0 hk).mono ?_
    rintro e w1 ⟨rfl, rfl⟩
    have s0 := k0.out.cell 0
    have x0 := k1.out.cell 0
    have x1 := k1.out.cell 1
    have x2 := k1.out.cell 2
    simp at s0 x0 x1 x2
    clear hk
    go_wp2_with fail
    refine (check_any ⟨w.heap.size, 0, none⟩ a n c B w1 ⟨k0.out.lt, s0, h.out⟩).mono ?_
    rintro e w2 ⟨⟨e', rfl, he⟩, b2⟩
    replace he := hid he
    replace x0 := (b2.cell (p := ⟨w.heap.size + 1, 0, none⟩) k1.out.lt).trans x0
    replace x1 := (b2.cell (p := ⟨w.heap.size + 1, 1, none⟩) k1.out.lt).trans x1
    replace x2 := (b2.cell (p := ⟨w.heap.size + 1, 2, none⟩) k1.out.lt).trans x2
    replace s0 := (b2.cell (p := ⟨w.heap.size, 0, none⟩) k0.out.lt).trans s0
    by_cases h0 : e' = 0
    · have h0' : (e' == 0) = true := by simp [h0]
      have hR := hid (he.out.1 h0)
      go_wp2_with fail
      refine (name_any x.name w2 hsm).mono ?_
      rintro e w3 ⟨⟨t, rfl, ht⟩, rfl⟩
      replace ht := hid ht
      cases t
      · go_wp2_with fail
        go_ret
        exact ⟨retE_no 1 (by omega) (fun f => Bool.false_ne_true (ht.out.2 f.name)), Below.tr b0 b2⟩
      · have hNm := hid (ht.out.1 rfl)
        go_wp2_with fail
        refine (checkFiles_any Q a n c B key fa fn fc x.files w3 (h.out.below b2) (hFi.out.below b2)).mono ?_
        rintro e w4 ⟨⟨e2, rfl, he2⟩, b4⟩
        replace he2 := hid he2
        replace x2 := (b4.cell (p := ⟨w.heap.size + 1, 2, none⟩) (Nat.lt_of_lt_of_le k1.out.lt b2.size)).trans x2
        replace s0 := (b4.cell (p := ⟨w.heap.size, 0, none⟩) (Nat.lt_of_lt_of_le k0.out.lt b2.size)).trans s0
        replace b4 := Below.tr b2 b4
        clear x0 x1 b2
        by_cases h2 : e2 = 0
        · have h2' : (e2 == 0) = true := by simp [h2]
          have hFO := hid (he2.out.1 h2)
          by_cases h3 : (3 : Int) < (sn : Int)
          · go_wp2_with fail
            go_ret
            exact ⟨retE_no 2 (by omega) (fun f => by have := f.fewS; rw [hsl.out] at this; omega), Below.tr b0 b4⟩
          · go_wp2_with fail
            replace h := hid (h.out.below b4)
            replace hSn := hid (hSn.out.below b4)
            replace b4 := hid (Below.tr b0 b4)
            clear x2 he he2 ht
            go_loopw [10, 43] (fun u v wr => ∃ (j : Nat) (s : ByteArray), j ≤ sn ∧ v = .int .i64 j ∧ u = .string s ∧ Below w4.heap.size w4 wr ∧ Ahead SnapE.nm x.snaps j s.data.toList ∧ SnapsTo n B key x.snaps j) (fun _ v _ => sn - (Go.RowKit.intOf v).toNat)
            case atStart => exact ⟨0, ⟨#[]⟩, Nat.zero_le _, rfl, rfl, Below.refl _ _, .inl ⟨rfl, rfl⟩, by simp, by simp, by simp⟩
            case round =>
              obtain ⟨j, s, hj, rfl, rfl, hb, ha, hF⟩ := hrel
              replace ha := hid ha
              replace hF := hid hF
              by_cases hlt : j < sn
              · have hjl : j < x.snaps.length := by rw [hsl.out]; exact hlt
                have hE' := hSn.out.below hb
                obtain ⟨eb, off, rfl⟩ : ∃ b off, sa = some ⟨b, off, none⟩ := by
                  obtain ⟨b, off, e, _⟩ := hE'.2 (by omega)
                  exact ⟨b, off, e⟩
                have hx : x.snaps[j]? = some (x.snaps.getD j SnapE.zero) := by rw [List.getElem?_eq_getElem hjl]; simp [List.getD, hjl]
                obtain ⟨ga, gn, gc, hA⟩ := hE'.snap hlt
                have c0 := hA.c0
                have c1 := hA.c1
                have hsz := hA.small
                have hGf := hid hA.files
                replace hx := hid hx
                clear hA hE' hjl
                generalize x.snaps.getD j SnapE.zero = y at *
                go_wp2_with fail
                have b1 := below_alloc wr (.cells #[.string y.name, .slice ga gn gc] 89)
                have k2 : CellsAt _ wr.heap.size #[.string y.name, .slice ga gn gc] 89 := cellsAt_alloc wr _ _
                clear c0 c1
                replace hGf := hid (hGf.out.below b1)
                replace hb := Below.tr hb b1
                generalize wr.alloc (.cells #[.string y.name, .slice ga gn gc] 89) = w5 at *
                refine (checkName_any s y.name w5 hsz).mono ?_
                rintro e w6 ⟨⟨e3, rfl, he3⟩, rfl⟩
                have q0 := k2.cell 0
                have q1 := k2.cell 1
                have s1 := (hb.cell (p := ⟨w.heap.size, 0, none⟩) (cell_lt s0)).trans s0
                simp at q0 q1
                replace he3 := hid he3
                replace k2 := hid k2
                by_cases h5 : e3 = 0
                · have h5' : (e3 == 0) = true := by simp [h5]
                  have hN := hid (he3.out.1 h5)
                  go_wp2_with fail
                  refine (checkFiles_any Q a n c B key ga gn gc y.files w6 (h.out.below hb) hGf.out).mono ?_
                  rintro e w7 ⟨⟨e4, rfl, he4⟩, b7⟩
                  have q3 := (b7.cell (p := ⟨wr.heap.size, 0, none⟩) k2.out.lt).trans q0
                  replace he4 := hid he4
                  replace hb := Below.tr hb b7
                  clear q0 q1 s1
                  by_cases h7 : e4 = 0
                  · have h7' : (e4 == 0) = true := by simp [h7]
                    have hf := hid (he4.out.1 h7)
                    go_wp2_with fail
                    go_roundw
                    case rel => exact ⟨j + 1, y.name, by omega, by go_num, rfl, hb, ahead_next (f := SnapE.nm) hx.out, hF.out.next hx.out ha.out hN.out hf.out⟩
                    case measure => simp [Go.RowKit.intOf]; omega
                  · have h7' : (e4 == 0) = false := by simp [h7]
                    go_wp2_with fail
                    go_ret
                    exact ⟨retE_no e4 h7 (fun f => h7 (he4.out.2 (f.filesS y (List.mem_of_getElem? hx.out)))), Below.tr b4.out hb⟩
                · have h5' : (e3 == 0) = false := by simp [h5]
                  go_wp2_with fail
                  go_ret
                  exact ⟨retE_no e3 h5 (fun f => h5 (he3.out.2 ⟨f.namesS y (List.mem_of_getElem? hx.out), order_ahead (f := SnapE.nm) hx.out f.orderS ha.out (f.namesS y (List.mem_of_getElem? hx.out)).1⟩)), Below.tr b4.out hb⟩
              · obtain rfl : j = sn := by omega
                have e1 : x.snaps.take j = x.snaps := List.take_of_length_le (by rw [hsl.out]; exact Nat.le_refl _)
                have hTo := hF.out
                go_wp2_with fail
                go_ret
                refine ⟨retE_yes ⟨⟨hkb.1, hkb.2.1⟩, hR.out, hNm.out, hFO.out, by rw [hsl.out]; omega, ?_, ?_, ?_⟩, Below.tr b4.out hb⟩
                · have := hTo.names; rwa [e1] at this
                · have := hTo.order; rwa [e1] at this
                · have := hTo.files; rwa [e1] at this
        · have h2' : (e2 == 0) = false := by simp [h2]
          go_wp2_with fail
          go_ret
          exact ⟨retE_no e2 h2 (fun f => h2 (he2.out.2 f.files)), Below.tr b0 b4⟩
    · have h0' : (e' == 0) = false := by simp [h0]
      go_wp2_with fail
      go_ret
      exact ⟨retE_no e' h0 (fun f => h0 (he.out.2 f.right)), Below.tr b0 b2⟩
  · have hk' : keyB key 0 = false := by simpa using hk
    have hno := keyB_false hk'
    refine (check_no key 0 w0 hk').mono ?_
    rintro e w1 ⟨rfl, rfl⟩
    replace hno := hid hno
    clear hk hk'
    go_wp2_with fail
    go_ret
    exact ⟨retE_no 3 (by omega) (fun f => hno.out ⟨f.kb.1, f.kb.2, by omega, by omega⟩), b0⟩
end Go.Proofs.YtnmcgmpmcliinaaGreat

namespace Go.Proofs.YtnmcgmpmcliinaaGreat
open Go.RowKit

/-- each of K is held once more -/
def moreB (B : Nat → Blk) (K : List Int) : Nat → Blk := fun i => { B i with refs := (B i).refs + (K.count ((i : Int) + 1) : Int) }
theorem moreB_nil (B : Nat → Blk) : moreB B [] = B := by
  funext i
  unfold moreB
  simp
theorem moreB_refs (B : Nat → Blk) (K : List Int) (i : Nat) : (moreB B K i).refs = (B i).refs + (K.count ((i : Int) + 1) : Int) := rfl
theorem moreB_zero (B : Nat → Blk) (K : List Int) : moreB B (K ++ [0]) = moreB B K := by
  funext i
  unfold moreB
  rw [List.count_append, List.count_cons_of_ne (by omega)]
  simp
theorem moreB_one (B : Nat → Blk) (K : List Int) (m : Nat) : moreB B (K ++ [(m : Int) + 1]) = upd (moreB B K) m { moreB B K m with refs := (moreB B K m).refs + 1 } := by
  funext i
  by_cases e : i = m
  · subst e
    rw [upd_same]
    unfold moreB
    rw [List.count_append, List.count_cons_self]
    simp
    omega
  · rw [upd_other _ _ _ _ e]
    unfold moreB
    rw [List.count_append, List.count_cons_of_ne (by omega)]
    simp
theorem among_moreB (n : Nat) (B : Nat → Blk) (K : List Int) (x : Int) : among n (moreB B K) x = among n B x := among_congr x fun _ _ => rfl
theorem outs_moreB (n : Nat) (B : Nat → Blk) (K : List Int) (k : Nat) : outs n (moreB B K) k = outs n B k + (K.count ((k : Int) + 1) : Int) := by
  unfold outs
  rw [among_moreB, moreB_refs]
  omega
theorem there_moreB {n : Nat} {B : Nat → Blk} {K : List Int} (hB : Right n B) {x : Int} (h : There n B x) : There n (moreB B K) x := by
  obtain ⟨h1, h2, h3⟩ := h
  have := (hB.one _ (ix h1 h2).1).bounds
  exact ⟨h1, h2, by rw [moreB_refs]; omega⟩
theorem right_moreB {n : Nat} {B : Nat → Blk} {K : List Int} (hB : Right n B) (hK : ∀ x ∈ K, x = 0 ∨ There n B x) (hc : ∀ i, i < n → (B i).refs + (K.length : Int) ≤ 1000000) : Right n (moreB B K) := by
  refine ⟨hB.small, fun i hi => ?_, fun i hi => ?_, fun k hk => absurd hk (by simp)⟩
  · have hb := (hB.one i hi).bounds
    have hcl := List.count_le_length (a := (i : Int) + 1) (l := K)
    have hci := hc i hi
    refine (hB.one i hi).turn (c := moreB B K i) rfl rfl rfl ?_ fun k _ ht => ⟨there_moreB hB ht, rfl⟩
    by_cases e : (K.count ((i : Int) + 1)) = 0
    · left; rw [moreB_refs, e]; simp
    · right
      have hm : ((i : Int) + 1) ∈ K := List.count_pos_iff.1 (by omega)
      rcases hK _ hm with h | ⟨_, _, h⟩
      · omega
      · rw [show ((i : Int) + 1 - 1).toNat = i by omega] at h
        rw [moreB_refs]
        omega
  · rw [among_moreB, moreB_refs]
    have := hB.held i hi
    simp at this ⊢
    omega
theorem grow_moreB {n : Nat} {B : Nat → Blk} {K : List Int} (hB : Right n B) (hK : ∀ x ∈ K, x = 0 ∨ There n B x) (hc : ∀ i, i < n → (B i).refs + (K.length : Int) ≤ 1000000) : Grow n B (moreB B K) K := by
  refine ⟨right_moreB hB hK hc, ⟨fun k hk h0 => ?_⟩, fun k _ => outs_moreB n B K k⟩
  have := (hB.one k hk).bounds
  exact ⟨by rw [moreB_refs]; omega, rfl, rfl, rfl⟩
/-- what may be let go -/
theorem right_held_many {n : Nat} {B : Nat → Blk} {T : List Int} (hB : Right n B) (hT : HeldR n B T) (hb : ∀ x ∈ T, x = 0 ∨ (1 ≤ x ∧ x ≤ n)) : RightT n B T := by
  refine ⟨hB.small, hB.one, fun i hi => ?_, hb⟩
  have := hT i hi
  unfold outs at this
  omega
/-- how often something is held behind it all -/
theorem fell_refs {n : Nat} {C D : Nat → Blk} {T : List Int} (hF : Fell n C D T) : ∀ k, k < n → (D k).refs ≤ (C k).refs - (T.count ((k : Int) + 1) : Int) := fun k hk => by
  have h1 := hF.out k hk
  have h2 : among n D ((k : Int) + 1) ≤ among n C ((k : Int) + 1) := by
    unfold among
    refine sumTo_le fun i hi => ?_
    rcases hF.same i hi with e | ⟨_, _, _, e, _⟩
    · rw [e]; simp [Blk.zero]
    · rw [e]; exact Nat.le_refl _
  omega

set_option maxHeartbeats 2000000 in
set_option maxRecDepth 100000 in
theorem shift_any (p : Addr) (g n : Nat) (B : Nat → Blk) (ma : Option Addr) (mn mc : Nat) (K : List Int) (la : Option Addr) (ln lc : Nat) (T : List Int) (w : World) (h : OwnPtr w p g n B)
    (hM : NumsAt (fun b => b ≠ g) .i64 w ma mn K) (hL : NumsAt (fun b => b ≠ g) .i64 w la ln T) (hln : ln ≤ 1000) (hmn : mn ≤ 1000) (hB : Right n B) (hK : ∀ x ∈ K, x = 0 ∨ There n B x) (hc : ∀ i, i < n → (B i).refs + (K.length : Int) ≤ 1000000)
    (hT : ∀ k, k < n → (T.count ((k : Int) + 1) : Int) ≤ outs n B k + (K.count ((k : Int) + 1) : Int)) (hTb : ∀ x ∈ T, x = 0 ∨ (1 ≤ x ∧ x ≤ n)) :
    Calls Tryz.prog 79 #[.pointer (some p), .slice ma mn mc, .slice la ln lc] w fun e w' => e = .returned (.tuple #[]) ∧ Out g w w' ∧ ∃ D, OwnPtr w' p g n D ∧ Right n D ∧ Fell n (moreB B K) D T := by
  have hRT : RightT n (moreB B K) T := right_held_many (right_moreB hB hK hc) (fun k hk => by rw [outs_moreB]; exact hT k hk) hTb
  have hn := hB.small
  have hKl := hid hM.1
  have hbd : Hid (∀ i, i < n → 0 ≤ (B i).refs ∧ (B i).refs + (K.length : Int) ≤ 1000000) := hid fun i hi => ⟨(hB.one i hi).bounds.1, hc i hi⟩
  replace hRT := hid hRT
  replace hM := hid hM
  replace hL := hid hL
  replace h := hid h
  replace hK := hid hK
  clear hB hc hT hTb
  go_enter Tryz.func79, Tryz.ntmps79
  go_wp2_with fail
  go_loopw [10] (fun v wr => ∃ j : Nat, j ≤ mn ∧ v = .int .i64 j ∧ Kept g w wr ∧ OwnPtr wr p g n (moreB B (K.take j))) (fun v _ => mn - (Go.RowKit.intOf v).toNat)
  case atStart => exact ⟨0, Nat.zero_le _, rfl, Kept.refl _ _, by rw [List.take_zero, moreB_nil]; exact h.out⟩
  case round =>
    obtain ⟨j, hjn, rfl, hkp, hP⟩ := hrel
    by_cases hlt : j < mn
    · obtain ⟨kb, ko, rfl, hkb, hgk, hcc⟩ := hM.out.2.2 (by omega)
      have hck : wr.cell? ⟨kb, ko + j, none⟩ = some (.int .i64 (K.getD j 0)) := (hkp.cell (p := ⟨kb, ko + j, none⟩) hgk).trans (hcc j hlt)
      have hjl : j < K.length := by rw [hKl.out]; exact hlt
      have hmem : K.getD j 0 ∈ K := hM.out.getD hlt
      have htk := take_snoc hjl
      replace htk := hid htk
      replace hmem := hid hmem
      clear hcc
      generalize K.getD j 0 = x at *
      by_cases hx0 : x = 0
      · have hx0' : (x == 0) = true := by simp [hx0]
        have hP' : Hid (OwnPtr wr p g n (moreB B (K.take (j + 1)))) := hid (by rw [htk.out, hx0, moreB_zero]; exact hP)
        clear hP
        go_wp2_with fail
        go_roundw
        case rel => exact ⟨j + 1, by omega, by go_num, hkp, hP'.out⟩
        case measure => simp [Go.RowKit.intOf]; omega
      · have hx0' : (x == 0) = false := by simp [hx0]
        have hth := (hK.out x hmem.out).resolve_left hx0
        obtain ⟨m, rfl⟩ : ∃ m : Nat, x = (m : Int) + 1 := ⟨(x - 1).toNat, by have := hth.1; omega⟩
        have hm : m < n := by have := hth.2.1; omega
        have hb1 := hbd.out m hm
        have hb2 : 0 ≤ (moreB B (K.take j) m).refs ∧ (moreB B (K.take j) m).refs + 1 ≤ 1000000 := by
          have := List.count_le_length (a := (m : Int) + 1) (l := K.take j)
          rw [List.length_take] at this
          rw [moreB_refs]
          omega
        have s2 := hP.cell
        obtain ⟨ka, kn, kc, ba, bn, bc, hb⟩ := hP.own.cell hm
        have c0 := hb.c0
        have f0 := hP.own.free (m * 4) (by omega)
        have J : Hid (∀ w', w' = wr.setCell ⟨g, m * 4, none⟩ (.int .i64 ((moreB B (K.take j) m).refs + 1)) → ∃ j' : Nat, j' ≤ mn ∧ Value.int .i64 ((j : Int) + 1) = .int .i64 j' ∧ Kept g w w' ∧ OwnPtr w' p g n (moreB B (K.take j'))) := hid (by
          intro w' hw
          subst hw
          have kk : Kept g wr (wr.setCell ⟨g, m * 4, none⟩ (.int .i64 ((moreB B (K.take j) m).refs + 1))) := Kept.setCell (g := g) (Kept.refl _ _) (p := ⟨g, m * 4, none⟩) rfl _
          refine ⟨j + 1, by omega, by go_num, hkp.trans kk, ?_⟩
          rw [htk.out, moreB_one]
          exact hP.kept kk (hP.own.refs hm _ (by omega)))
        clear hb hP hth hb1
        generalize (moreB B (K.take j) m).refs = r at *
        go_wp2_with fail
        refine (at_own p g n n m _ hn s2 hm).mono ?_
        rintro e w1 ⟨rfl, rfl⟩
        go_wp2_with fail
        go_roundw
        case rel => exact J.out _ rfl
        case measure => simp [Go.RowKit.intOf]; omega
    · obtain rfl : j = mn := by omega
      have e2 : K.take j = K := List.take_of_length_le (by rw [hKl.out]; exact Nat.le_refl _)
      rw [e2] at hP
      have hL' := hL.out.kept (fun b h => h) hkp
      replace hP := hid hP
      replace hL' := hid hL'
      clear e2
      go_wp2_with fail
      refine (letGo_any p g n (moreB B K) la ln lc T wr hP.out hL'.out hln hRT.out).mono ?_
      rintro e w4 ⟨rfl, hk4, C, h4, hR4, hF4⟩
      replace h4 := hid h4
      replace hR4 := hid hR4
      replace hF4 := hid hF4
      replace hk4 := hid ((Out.of_kept (g := g) hkp).trans hk4)
      go_wp2_with fail
      go_end0
      exact ⟨rfl, hk4.out, C, h4.out, hR4.out, hF4.out⟩
end Go.Proofs.YtnmcgmpmcliinaaGreat

namespace Go.Proofs.YtnmcgmpmcliinaaGreat
open Go.RowKit

theorem row_below {w w' : World} {base : Nat} {e : TypeId} {size : Nat} {v : Value} {n : Nat} {xs : List Value} (h : w.ownsRow base e size v n xs) (b : Below w.heap.size w w') : w'.ownsRow base e size v n xs := (Only.of_below (M := fun _ => False) b).row h (fun _ _ m => m)

set_option maxHeartbeats 1000000 in
set_option maxRecDepth 100000 in
theorem rootsOf_any (Q : Nat → Prop) (fa : Option Addr) (fn fc : Nat) (l : List Ent) (w : World) (hfn : fn ≤ 1000) (hE : EntsAt Q w fa fn l) :
    Calls Tryz.prog 123 #[.slice fa fn fc] w fun e w' => Below w.heap.size w w' ∧ e = .returned (.slice (some ⟨w.heap.size, 0, none⟩) fn fn) ∧ w'.ownsRow w.heap.size 3 1 (.slice (some ⟨w.heap.size, 0, none⟩) fn fn) fn ((rootsE l).map (Value.int .i64)) := by
  obtain ⟨i0, hi, hz0, hz1, hz2⟩ := info_parts Tryz.infoInt
  have hl := hid hE.1
  replace hE := hid hE
  go_enter Tryz.func123, Tryz.ntmps123
  go_wp2_with (at_make; refine wpList_make_full _ rfl (.tmp 7) (.tmp 7) 77 rfl w.heap.size 3 i0 (.int .i64 0) 1 Tryz.underlying77 hi hz0 hz1 .i64 .i64 fn fn fn rfl rfl rfl rfl (by rw [hz2]; omega) (by unfold maxLen; omega) (by simp) ?_; intro w2 hown hgr; have hb2 : Below w.heap.size w w2 := (Below.refl _ _).grown hgr (by simp) (by simp))
  rw [made_ints] at hown
  go_loopw [11] (fun v wr => ∃ i : Nat, i ≤ fn ∧ v = .int .i64 i ∧ Row wr w.heap.size w.heap.size fn (fun k => if k < i then (l.getD k Ent.zero).root else 0) ∧ Below w.heap.size w wr) (fun v _ => fn - (Go.RowKit.intOf v).toNat)
  case atStart => exact ⟨0, Nat.zero_le _, rfl, Row.congr (f := fun _ => 0) hown (fun k _ => by simp), hb2⟩
  case round =>
    clear hown hgr hb2
    obtain ⟨i, hin, rfl, hrow, hbel⟩ := hrel
    by_cases hlt : i < fn
    · have hE' := hE.out.below hbel
      obtain ⟨eb, off, rfl⟩ : ∃ b off, fa = some ⟨b, off, none⟩ := by
        obtain ⟨b, off, e, _⟩ := hE'.2.2 (by omega)
        exact ⟨b, off, e⟩
      have hA := hE'.ent hlt
      have c0 := hA.c0
      have c1 := hA.c1
      have c2 := hA.c2
      clear hA hE'
      generalize hx : l.getD i Ent.zero = x at *
      replace hx := hid hx
      have r0 := hrow.cell hlt
      have r1 := hrow.frozen i
      have hlt1 := hrow.lt.2
      have b1 := below_alloc (wr.setCell ⟨w.heap.size, i, none⟩ (.int .i64 x.root)) (.cells #[.string x.name, .int .i64 x.root, .int .i64 x.size] 62)
      have hrow2 : Hid (Row _ w.heap.size w.heap.size fn _) := hid (row_below (hrow.set i x.root) b1)
      have hbel2 := hid (Below.tr (hbel.trans ((Kept.setCell (g := w.heap.size) (Kept.refl _ wr) (p := ⟨w.heap.size, i, none⟩) rfl (.int .i64 x.root)).below (Nat.le_refl _))) b1)
      clear hrow b1
      go_wp2_with fail
      clear c0 c1 c2 r0 r1
      go_roundw
      case rel =>
        refine ⟨i + 1, by omega, by go_num, hrow2.out.congr (fun k hk => ?_), hbel2.out⟩
        by_cases e : k = i
        · subst e
          show (if k = k then x.root else _) = if k < k + 1 then (l.getD k Ent.zero).root else 0
          rw [if_pos rfl, if_pos (by omega), hx.out]
        · by_cases e2 : k < i
          · simp [e, e2, show k < i + 1 by omega]
          · simp [e, e2, show ¬ k < i + 1 by omega]
      case measure => simp [Go.RowKit.intOf]; omega
    · obtain rfl : i = fn := by omega
      have hfin : wr.ownsRow w.heap.size 3 1 (.slice (some ⟨w.heap.size, 0, none⟩) i i) i ((rootsE l).map (Value.int .i64)) := by
        have e : (rootsE l).map (Value.int .i64) = (List.range i).map fun k => Value.int .i64 (if k < i then (l.getD k Ent.zero).root else 0) := by
          apply List.ext_getElem
          · simp [rootsE, hl.out]
          · intro k h1 h2
            have hk : k < l.length := by simpa [rootsE] using h1
            have hki : k < i := by rw [← hl.out]; exact hk
            simp [rootsE, List.getD, hk, hki]
        rw [e]
        exact hrow
      replace hfin := hid hfin
      clear hrow
      go_wp2_with fail
      go_ret
      exact ⟨hbel, rfl, hfin.out⟩

theorem root_wf {l : List Ent} (h : ∀ x ∈ l, x.ok) : ∀ r ∈ rootsE l, (Lit.int .i64 r).wf = true := fun r hr => by
  obtain ⟨f, hf, rfl⟩ := mem_rootsE.1 hr
  exact WalkArith.wf_i64 (h f hf).2.1
theorem rootsS_take {l : List SnapE} {j : Nat} {x : SnapE} (hx : l[j]? = some x) : rootsS (l.take (j + 1)) = rootsS (l.take j) ++ rootsE x.files := by
  rw [take_next hx, rootsS_append]
  simp [rootsS]

/-- the roots of a set, in a row of one's own -/
def RetRo (base : Nat) (e : Ending) (w : World) (R : List Int) : Prop := ∃ a c, e = .returned (.slice a R.length c) ∧ w.ownsRow base 3 1 (.slice a R.length c) R.length (R.map (Value.int .i64)) ∧ ∀ r ∈ R, (Lit.int .i64 r).wf = true

set_option maxHeartbeats 2000000 in
set_option maxRecDepth 100000 in
theorem roots_any (Q : Nat → Prop) (v : SetV) (x : SetE) (w : World) (hX : SetAt Q w v x) (h6 : x.files.length ≤ 6) (h3 : x.snaps.length ≤ 3) (hs6 : ∀ s ∈ x.snaps, s.files.length ≤ 6) :
    Calls Tryz.prog 80 #[v.val] w fun e w' => RetRo w.heap.size e w' (rootsX x) ∧ Below w.heap.size w w' := by
  obtain ⟨i0, hi, hz0, hz1, hz2⟩ := info_parts Tryz.infoInt
  obtain ⟨vn, fa, fn, fc, sa, sn, sc⟩ := v
  obtain ⟨hnm, hsm, hFi, hSn, hcap⟩ := hX
  simp only at hnm hFi hSn
  subst hnm
  unfold SetV.val
  simp only
  have b0 := below_alloc w (.cells #[.string x.name, .slice fa fn fc, .slice sa sn sc] 47)
  have k1 : CellsAt _ w.heap.size #[.string x.name, .slice fa fn fc, .slice sa sn sc] 47 := cellsAt_alloc w _ _
  have hfl := hid hFi.1
  have hsl := hid hSn.1
  have hwf := hid (root_wf hFi.2.1)
  replace hFi := hid (hFi.below b0)
  replace hSn := hid (hSn.below b0)
  replace k1 := hid k1
  have hfn : fn ≤ 6 := by rw [← hFi.out.1]; exact h6
  have hsn : sn ≤ 3 := by rw [← hSn.out.1]; exact h3
  replace hs6 := hid hs6
  clear hcap h6 h3
  go_enter Tryz.func80, Tryz.ntmps80
  go_wp2_with fail
  generalize w.alloc (.cells #[.string x.name, .slice fa fn fc, .slice sa sn sc] 47) = w0 at *
  refine (rootsOf_any Q fa fn fc x.files w0 (by omega) hFi.out).mono ?_
  rintro e w1 ⟨b1, rfl, ho⟩
  have x2 := (b1.cell (p := ⟨w.heap.size, 2, none⟩) k1.out.lt).trans (k1.out.cell 2)
  simp at x2
  replace ho := hid ho
  clear hFi
  go_wp2_with fail
  clear x2
  go_loopw [3, 12] (fun u v wr => ∃ (j k : Nat) (xs : List Int), j ≤ sn ∧ v = .int .i64 j ∧ Below w0.heap.size w0 wr ∧ k ≤ fn + j * 6 ∧ xs = rootsE x.files ++ rootsS (x.snaps.take j) ∧ xs.length = k ∧ (∃ a c, u = .slice a k c) ∧ wr.ownsRow w0.heap.size 3 1 u k (xs.map (Value.int .i64)) ∧ ∀ r ∈ xs, (Lit.int .i64 r).wf = true) (fun _ v _ => sn - (Go.RowKit.intOf v).toNat)
  case atStart => exact ⟨0, fn, rootsE x.files, Nat.zero_le _, rfl, b1, by omega, by simp [rootsS], by simp [rootsE, hfl.out], ⟨_, _, rfl⟩, ho.out, hwf.out⟩
  case round =>
    clear ho b1
    obtain ⟨j, k, xs, hj, rfl, hb, hk, hxs, hxl, ⟨ua, uc, rfl⟩, hown, hw⟩ := hrel
    replace hxs := hid hxs
    replace hxl := hid hxl
    replace hw := hid hw
    by_cases hlt : j < sn
    · have hjl : j < x.snaps.length := by rw [hsl.out]; exact hlt
      have hE' := hSn.out.below hb
      obtain ⟨eb, off, rfl⟩ : ∃ b off, sa = some ⟨b, off, none⟩ := by
        obtain ⟨b, off, e, _⟩ := hE'.2 (by omega)
        exact ⟨b, off, e⟩
      have hx : x.snaps[j]? = some (x.snaps.getD j SnapE.zero) := by rw [List.getElem?_eq_getElem hjl]; simp [List.getD, hjl]
      obtain ⟨ga, gn, gc, hA⟩ := hE'.snap hlt
      have c0 := hA.c0
      have c1 := hA.c1
      have hGf := hA.files
      have hg6 : gn ≤ 6 := by rw [← hGf.1]; exact hs6.out _ (List.mem_of_getElem? hx)
      have hgw := hid (root_wf hGf.2.1)
      have hgl := hid hGf.1
      replace hx := hid hx
      clear hA hE' hjl
      generalize x.snaps.getD j SnapE.zero = y at *
      replace hown := hid hown
      replace hGf := hid hGf
      go_wp2_with fail
      have ba := below_alloc wr (.cells #[.string y.name, .slice ga gn gc] 89)
      clear c0 c1
      replace hGf := hGf.out.below ba
      replace hown := row_below hown.out ba
      replace hb := Below.tr hb ba
      clear ba
      generalize wr.alloc (.cells #[.string y.name, .slice ga gn gc] 89) = w5 at *
      refine (rootsOf_any Q ga gn gc y.files w5 (by omega) hGf).mono ?_
      rintro e w6 ⟨b6, rfl, ho6⟩
      have hown6 := hid (row_below hown b6)
      have hsrc : Hid (∀ j u, ((rootsE y.files).map (Value.int .i64))[j]? = some u → w6.cell? ((⟨w5.heap.size, 0, none⟩ : Addr).add j) = some u) := hid (ho6.cells rfl)
      have hb6 : Hid (w0.heap.size ≤ w6.heap.size) := hid (Nat.le_trans hb.size b6.size)
      replace hb := Below.tr hb b6
      have hnl : Hid (((rootsE y.files).map (Value.int .i64)).length = gn * 1) := hid (by simp [rootsE, hgl.out])
      clear hown b6 ho6 hGf
      go_wp2_with (at_builtin; refine wpList_append_own _ rfl _ _ 77 rfl w0.heap.size 3 i0 (.int .i64 0) 1 8 Tryz.underlying77 hi hz0 hz1 hz2 rfl (by decide) _ _ _ rfl hown6.out ⟨w5.heap.size, 0, none⟩ gn gn ((rootsE y.files).map (Value.int .i64)) rfl hnl.out hsrc.out (by intro u hu; simp at hu; obtain ⟨_, _, rfl⟩ := hu; rfl) (by unfold maxLen; omega) (by omega) hb6.out ?_)
      intro v' w7 hown7 hgrow hnil
      have b7 : Below w0.heap.size w0 w7 := hb.grown hgrow hb6.out (fun i hi => (hown6.out.lt i hi).1)
      rw [← List.map_append] at hown7
      obtain ⟨a', c', rfl⟩ : ∃ a' c', v' = .slice a' (k + gn) c' := by
        rcases hown7.2 with ⟨hv, h0⟩ | ⟨g, cap, cur, hv, _⟩
        · exact ⟨none, 0, by rw [hv, h0]⟩
        · exact ⟨_, _, hv⟩
      have hw7 : ∀ r ∈ xs ++ rootsE y.files, (Lit.int .i64 r).wf = true := fun r hr => by
        rcases List.mem_append.1 hr with h | h
        · exact hw.out r h
        · exact hgw.out r h
      have hl7 : (xs ++ rootsE y.files).length = k + gn := by rw [List.length_append, hxl.out]; simp [rootsE, hgl.out]
      have hx7 : xs ++ rootsE y.files = rootsE x.files ++ rootsS (x.snaps.take (j + 1)) := by rw [hxs.out, rootsS_take hx.out, List.append_assoc]
      replace hown7 := hid hown7
      replace hw7 := hid hw7
      replace hl7 := hid hl7
      replace hx7 := hid hx7
      clear hown6 hgrow hnil hsrc hnl hb
      go_wp2_with fail
      go_roundw
      case rel => exact ⟨j + 1, k + gn, xs ++ rootsE y.files, by omega, by go_num, b7, by omega, hx7.out, hl7.out, ⟨_, _, rfl⟩, hown7.out, hw7.out⟩
      case measure => simp [Go.RowKit.intOf]; omega
    · obtain rfl : j = sn := by omega
      have e1 : x.snaps.take j = x.snaps := List.take_of_length_le (by rw [hsl.out]; exact Nat.le_refl _)
      have hxs' : Hid (xs = rootsX x) := hid (by rw [hxs.out, e1]; rfl)
      have J : Hid (RetRo w.heap.size (.returned (.slice ua k uc)) wr (rootsX x)) := hid (by
        rw [← hxs'.out]
        exact ⟨ua, uc, by rw [hxl.out], by rw [hxl.out]; exact ownsRow_base b0.size hown, hw.out⟩)
      clear hown
      go_wp2_with fail
      go_ret
      exact ⟨J.out, Below.tr b0 hb⟩
end Go.Proofs.YtnmcgmpmcliinaaGreat
