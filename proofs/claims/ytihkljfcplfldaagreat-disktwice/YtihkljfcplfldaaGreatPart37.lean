/-
  ImgI, DskH, ImageBackWalk, DskI in one text. Nothing here is trusted.
-/
import Derived.Test.YtihkljfcplfldaaGreatPart33
import Derived.Test.YtihkljfcplfldaaGreatPart36
import Derived.Lib.SliceRun
set_option linter.unusedVariables false
namespace Go.Proofs.YtihkljfcplfldaaGreat
open Go.RowKit

def zero91 : List Blk := List.replicate 91 Blk.zero
theorem blksOf_zero (n : Nat) : (fun _ => Blk.zero) = blksOf (List.replicate n Blk.zero) := by
  funext i
  unfold blksOf
  simp only [List.getD_eq_getElem?_getD, List.getElem?_replicate]
  split <;> rfl
theorem poolOk_new {n : Nat} {l : List TenE} (hn : n ≤ 400) (hl : l.length ≤ 3) (ht : ∀ t ∈ l, (0 ≤ t.key ∧ t.key ≤ 1000) ∧ (0 ≤ t.quota ∧ t.quota ≤ 400) ∧ t.sets = []) (hq : sumQ l + 90 ≤ n) : PoolOk n (fun _ => Blk.zero) l := by
  have hr : ∀ t ∈ l, rootsT t = [] := fun t h => by unfold rootsT rootsL; rw [(ht t h).2.2]; rfl
  have hR : rootsP l = [] := by
    unfold rootsP
    rw [List.flatMap_eq_nil_iff]
    exact hr
  refine ⟨right_zero n hn, hl, fun t h => ⟨(ht t h).1, (ht t h).2.1, by rw [(ht t h).2.2]; simp, by rw [(ht t h).2.2]; simp, by rw [(ht t h).2.2]; simp⟩, fun _ => hq, fun t h => ⟨0, ⟨[], List.Pairwise.nil, fun x => ⟨fun hx => by simp at hx, fun hx => by rw [hr t h] at hx; exact (Clo.nil hx).elim⟩, rfl⟩, (ht t h).2.1.1⟩, ?_, fun k hk => by rw [outs_zero, hR]; rfl⟩
  refine List.pairwise_of_forall_mem_list (fun t h u _ x hx => ?_)
  rw [hr t h] at hx
  exact (Clo.nil hx).elim
theorem img91 : (imgB zero91 [⟨3, 1, []⟩]).length = 738 ∧ (imgB zero91 [⟨3, 1, []⟩]).take 3 = [0, 91, 0] ∧ (imgB zero91 [⟨3, 1, []⟩]).drop 730 = [0, 1, 0, 3, 0, 1, 0, 0] := by
  have e0 : blkB Blk.zero = [0, 0, 0, 0, 0, 0, 0, 0] := by decide
  have e1 : (zero91.flatMap blkB).length = 728 := by
    have := flat_bound (f := blkB) (c := 8) (l := zero91)
    unfold zero91
    rw [List.flatMap_replicate, List.length_flatten, List.map_replicate, e0]
    decide
  have e2 : imgB zero91 [⟨3, 1, []⟩] = [0, 91] ++ (zero91.flatMap blkB ++ [0, 1, 0, 3, 0, 1, 0, 0]) := by
    unfold imgB lstB
    rw [List.append_assoc]
    have h1 : numB ((zero91.length : Nat) : Int) = [0, 91] := by unfold zero91; rw [List.length_replicate]; decide
    have h2 : numB ((([⟨3, 1, []⟩] : List TenE).length : Nat) : Int) ++ List.flatMap tenB [⟨3, 1, []⟩] = [0, 1, 0, 3, 0, 1, 0, 0] := by decide
    rw [h1, h2]
  rw [e2]
  refine ⟨?_, ?_, ?_⟩
  · rw [List.length_append, List.length_append, e1]; rfl
  · have e3 : zero91.flatMap blkB = 0 :: ([0, 0, 0, 0, 0, 0, 0] ++ (List.replicate 90 Blk.zero).flatMap blkB) := by
      unfold zero91
      rw [show (91 : Nat) = 90 + 1 from rfl, List.replicate_succ, List.flatMap_cons, e0]
      rfl
    rw [e3]
    rfl
  · rw [show (730 : Nat) = 2 + 728 from rfl, ← List.drop_drop]
    have h3 : ([0, 91] ++ (zero91.flatMap blkB ++ [0, 1, 0, 3, 0, 1, 0, 0]) : List Int).drop 2 = zero91.flatMap blkB ++ [0, 1, 0, 3, 0, 1, 0, 0] := rfl
    rw [h3, List.drop_append_of_le_length (by rw [e1]; exact Nat.le_refl _), ← e1, List.drop_length, List.nil_append]

theorem nums_lit3 (w : World) (x y z : Int) (h : Byt [x, y, z]) : NumsAt (fun _ => True) .u8 (w.alloc (.cells #[.int .u8 x, .int .u8 y, .int .u8 z] 5)) (some ⟨w.heap.size, 0, none⟩) 3 [x, y, z] := by
  have k := cellsAt_alloc w #[.int .u8 x, .int .u8 y, .int .u8 z] 5
  refine ⟨rfl, fun u hu => wf_u8 (h u hu), fun _ => ⟨_, _, rfl, k.lt, trivial, fun i hi => ?_⟩⟩
  rcases (by omega : i = 0 ∨ i = 1 ∨ i = 2) with rfl | rfl | rfl
  · exact k.cell 0
  · exact k.cell 1
  · exact k.cell 2
theorem nums_lit8 (w : World) (l0 l1 l2 l3 l4 l5 l6 l7 : Int) (h : Byt [l0, l1, l2, l3, l4, l5, l6, l7]) : NumsAt (fun _ => True) .u8 (w.alloc (.cells #[.int .u8 l0, .int .u8 l1, .int .u8 l2, .int .u8 l3, .int .u8 l4, .int .u8 l5, .int .u8 l6, .int .u8 l7] 5)) (some ⟨w.heap.size, 0, none⟩) 8 [l0, l1, l2, l3, l4, l5, l6, l7] := by
  have k := cellsAt_alloc w #[.int .u8 l0, .int .u8 l1, .int .u8 l2, .int .u8 l3, .int .u8 l4, .int .u8 l5, .int .u8 l6, .int .u8 l7] 5
  refine ⟨rfl, fun u hu => wf_u8 (h u hu), fun _ => ⟨_, _, rfl, k.lt, trivial, fun i hi => ?_⟩⟩
  rcases (by omega : i = 0 ∨ i = 1 ∨ i = 2 ∨ i = 3 ∨ i = 4 ∨ i = 5 ∨ i = 6 ∨ i = 7) with rfl | rfl | rfl | rfl | rfl | rfl | rfl | rfl
  · exact k.cell 0
  · exact k.cell 1
  · exact k.cell 2
  · exact k.cell 3
  · exact k.cell 4
  · exact k.cell 5
  · exact k.cell 6
  · exact k.cell 7
theorem ok91 : OkL zero91 [⟨3, 1, []⟩] := by
  unfold OkL zero91
  rw [← blksOf_zero, List.length_replicate]
  exact poolOk_new (by omega) (by simp) (fun t ht => by simp only [List.mem_singleton] at ht; subst ht; simp) (by simp [sumQ])

end Go.Proofs.YtihkljfcplfldaaGreat

namespace Go.Proofs.YtihkljfcplfldaaGreat
open Go.RowKit

/-- the disk has what was committed last, in slot wh, with number k -/
structure Has (A B : List Int) (wh k : Int) (bs : List Blk) (ts : List TenE) : Prop where
  fits : Fits A B
  is : Newest A B wh k bs ts
theorem has_nil : Has [] [] 0 0 [] [] := ⟨by unfold Fits; simp, newest_nil⟩
theorem nextIs_one {A B : List Int} {bs : List Blk} {ts : List TenE} {wh wh' k k' : Int} {bs' : List Blk} {ts' : List TenE} (h : NextIs A B bs ts wh k) (h' : Has A B wh' k' bs' ts') : wh = wh' ∧ k = k' := by
  obtain ⟨b, t, hn⟩ := h.is
  obtain ⟨e1, e2, _⟩ := hn.one h'.is
  exact ⟨e1, e2⟩
theorem has_whole {A B : List Int} {wh k : Int} {bs bs' : List Blk} {ts ts' : List TenE} (h : Has A B wh k bs ts) (hn : NextIs A B bs' ts' wh k) : Has (nextA A wh (nextS bs' ts' k)) (nextB B wh (nextS bs' ts' k)) (if wh = 1 then 2 else 1) (k + 1) bs' ts' := by
  refine ⟨?_, newest_next h.is (whole_slot (by have := hn.k0; have := hn.k1; omega) hn.ok hn.len)⟩
  have h1 := h.fits
  have h2 := nextS_len bs' ts' k
  have h3 := hn.len
  unfold Fits nextA nextB at *
  split <;> omega
theorem has_torn {A B : List Int} {wh k : Int} {bs bs' : List Blk} {ts ts' : List TenE} {j : Nat} (h : Has A B wh k bs ts) (hn : NextIs A B bs' ts' wh k) (hj : j < (nextS bs' ts' k).length) : Has (nextA A wh ((nextS bs' ts' k).take j)) (nextB B wh ((nextS bs' ts' k).take j)) wh k bs ts := by
  refine ⟨?_, newest_torn h.is (torn_slot hn.len (by rw [nextS_len] at hj; exact hj))⟩
  have h1 := h.fits
  have h2 := nextS_len bs' ts' k
  have h3 := hn.len
  have h4 : ((nextS bs' ts' k).take j).length ≤ 20009 := by rw [List.length_take]; omega
  unfold Fits nextA nextB at *
  split <;> omega
theorem whyD_no {A B : List Int} {wh k : Int} {bs bs' : List Blk} {ts ts' : List TenE} (h : Has A B wh k bs ts) (hk : k < 2147483647) (hok : OkL bs' ts') : ¬ WhyD A B bs' ts' := fun f => by
  obtain ⟨wh', k', b, t, hn, hge⟩ := f h.fits hok
  have := (hn.one h.is).2.1
  omega
/-- what Commit answers of a right pool -/
theorem RetCm.yes {base : Nat} {e : Ending} {w : World} {A B : List Int} {bs bs' : List Blk} {ts ts' : List TenE} {S : Int → List Int → Prop} {wh k : Int} (h : RetCm base e w A B bs ts (fun _ => False) S) (hH : Has A B wh k bs' ts') (hk : k < 2147483647) (hok : OkL bs ts) : ∃ a n c b m d S', e = .returned (.tuple #[.agg #[.slice a n c, .slice b m d], .int .i64 0]) ∧ NextIs A B bs ts wh k ∧ S k S' ∧ RowN base w a n c (nextA A wh S') ∧ RowN base w b m d (nextB B wh S') := by
  rcases h with ⟨e', _, _, h | h⟩ | ⟨a, n, c, b, m, d, wh', k', S', rfl, hn, hS, h1, h2⟩
  · exact h.elim
  · exact absurd h (whyD_no hH hk hok)
  · obtain ⟨rfl, rfl⟩ := nextIs_one hn hH
    exact ⟨a, n, c, b, m, d, S', rfl, hn, hS, h1, h2⟩
/-- what Torn answers of a right pool, at a place of the slot -/
theorem RetCm.torn {base : Nat} {e : Ending} {w : World} {A B : List Int} {bs bs' : List Blk} {ts ts' : List TenE} {S : Int → List Int → Prop} {N : Int → Prop} {wh k : Int} (h : RetCm base e w A B bs ts N S) (hN : ∀ e', ¬ N e') (hH : Has A B wh k bs' ts') (hk : k < 2147483647) (hok : OkL bs ts) : ∃ a n c b m d S', e = .returned (.tuple #[.agg #[.slice a n c, .slice b m d], .int .i64 0]) ∧ NextIs A B bs ts wh k ∧ S k S' ∧ RowN base w a n c (nextA A wh S') ∧ RowN base w b m d (nextB B wh S') := by
  rcases h with ⟨e', _, _, h | h⟩ | ⟨a, n, c, b, m, d, wh', k', S', rfl, hn, hS, h1, h2⟩
  · exact (hN e' h).elim
  · exact absurd h (whyD_no hH hk hok)
  · obtain ⟨rfl, rfl⟩ := nextIs_one hn hH
    exact ⟨a, n, c, b, m, d, S', rfl, hn, hS, h1, h2⟩
/-- what Recover answers of a disk that has a pool -/
theorem RetRc.yes {e : Ending} {w : World} {A B : List Int} {bs : List Blk} {ts : List TenE} {wh k : Int} (h : RetRc e w A B) (hH : Has A B wh k bs ts) (hw : wh ≠ 0) : ∃ a n c ta tn tc, e = .returned (.tuple #[.agg #[.slice a n c, .slice ta tn tc], .int .i64 k, .int .i64 0]) ∧ OkL bs ts ∧ n = bs.length ∧ PoolAt (fun _ => True) w a n (blksOf bs) ta tn ts := by
  rcases h with ⟨e', _, _, h⟩ | ⟨a, n, c, ta, tn, tc, wh', k', bs', ts', rfl, _, hN, hw', hok, _, hn, hP⟩
  · obtain ⟨b, t, hN⟩ := h hH.fits
    exact absurd ((hH.is.one hN).1) hw
  · obtain ⟨rfl, rfl, hb⟩ := hN.one hH.is
    obtain ⟨rfl, rfl⟩ := hb hw'
    exact ⟨a, n, c, ta, tn, tc, rfl, hok, hn, hP⟩
theorem okL_len {bs : List Blk} {ts : List TenE} (h : OkL bs ts) : (imgB bs ts).length ≤ 9896 := by
  have := poolB_le h
  rwa [poolB_of] at this
theorem same_true {bs bs' : List Blk} {ts ts' : List TenE} {n n' : Nat} (h : OkL bs ts) (e1 : n = bs.length) (e2 : n' = bs'.length) (e3 : bs' = bs) (e4 : ts' = ts) : SameBytes n (blksOf bs) ts n' (blksOf bs') ts' := by
  subst e1; subst e2; subst e3; subst e4
  exact ⟨h, h, rfl⟩
theorem ok92 : OkL (List.replicate 92 Blk.zero) [⟨3, 1, []⟩] := by
  unfold OkL
  rw [← blksOf_zero, List.length_replicate]
  exact poolOk_new (by omega) (by simp) (fun t ht => by simp only [List.mem_singleton] at ht; subst ht; simp) (by simp [sumQ])
end Go.Proofs.YtihkljfcplfldaaGreat

namespace Go.Proofs.YtihkljfcplfldaaGreat
open Go.RowKit

set_option maxHeartbeats 400000 in
theorem cloneBy_any (x : Addr) (n c : Nat) (l : List Int) (Q : Nat → Prop) (w : World) (hn : n ≤ 100000) (h : NumsAt Q .u8 w (some x) n l) :
    Calls Tryz.prog 95 #[.slice (some x) n c] w fun e w' =>
      Below w.heap.size w w' ∧ ∃ v, e = .returned v ∧ w'.ownsRow w.heap.size 5 1 v n (l.map (Value.int .u8)) := by
  obtain ⟨i0, hi, hz0, hz1, hz2⟩ := info_parts Tryz.infoByte
  have qn : ∀ (w : World) (a : Option Addr) (n c n' c' : Nat), (binOp .eql 28 (.slice a n c) (.slice none n' c')).run Tryz.prog w = .ok (.bool a.isNone) w := fun w a n c n' c' => Lib.run_eql_slice_nil w _ _ a n c n' c' Tryz.underlying28
  have hl := h.1
  have hcn : ∀ j u, (l.map (Value.int .u8))[j]? = some u → (w.alloc (.cells #[] 5)).cell? (x.add j) = some u := by
    intro j u hj
    have hjl : j < l.length := by
      rcases Nat.lt_or_ge j l.length with h | h
      · exact h
      · simp [List.getElem?_eq_none h] at hj
    obtain ⟨b, off, he, hb, _, hc⟩ := h.2.2 (by omega)
    obtain rfl : x = ⟨b, off, none⟩ := by simpa using he
    have ea : (⟨b, off, none⟩ : Addr).add j = ⟨b, off + j, none⟩ := by unfold Addr.add; split <;> simp_all
    rw [ea, World.cell?_alloc_past _ _ _ hb, hc j (by omega)]
    simp [hjl] at hj
    simp [List.getD, hjl, hj]
  have A := hid hcn
  replace hl := hid hl
  clear hcn h
  go_enter Tryz.func95, Tryz.ntmps95
  go_wp2_with (at_builtin; refine wpList_append_own _ rfl _ _ 28 rfl w.heap.size 5 i0 (.int .u8 0) 1 1 Tryz.underlying28 hi hz0 hz1 hz2 rfl (by decide) _ _ _ rfl (World.ownsRow_made w #[] 0 (Nat.le_refl _) (Nat.zero_le _) (by simp)) x n c (l.map (Value.int .u8)) rfl ?qc1 ?qc2 ?qc3 ?qc4 ?qc5 ?qc6 ?_)
  case qc1 => simp [hl.out]
  case qc2 => exact A.out
  case qc3 => intro u hu; simp at hu; obtain ⟨x, _, rfl⟩ := hu; rfl
  case qc4 => unfold maxLen; omega
  case qc5 => omega
  case qc6 => simp
  intro v' w1 hown hgrow hnil
  have hown' : w1.ownsRow w.heap.size 5 1 v' n (l.map (Value.int .u8)) := by simpa using hown
  have hbel := ((Below.refl _ w).alloc (Nat.le_refl _) _).grown hgrow (by simp) (by intro k hk; simp [Value.ownBlock] at hk; omega)
  clear hown hgrow A hnil
  obtain ⟨a', m', c', rfl⟩ : ∃ a m c, v' = .slice a m c := by
    rcases hown'.2 with ⟨hv, _⟩ | ⟨g, cap, cur, hv, _⟩
    · exact ⟨_, _, _, hv⟩
    · exact ⟨_, _, _, hv⟩
  replace hown' := hid hown'
  go_wp2_with fail
  go_ret
  exact ⟨hbel, _, rfl, hown'.out⟩

/-- what Read answers, in one form -/
theorem RetR7.uni {e : Ending} {w : World} {b : List Int} (h : RetR7 e w b) : ∃ (a : Option Addr) (n c : Nat) (ta : Option Addr) (tn tc : Nat) (e' : Int), e = .returned (.tuple #[.agg #[.slice a n c, .slice ta tn tc], .int .i64 e']) ∧ (e' = 0 → ∃ bs ts, poolP b = some ((bs, ts), []) ∧ OkL bs ts ∧ n = bs.length ∧ PoolAt (fun _ => True) w a n (blksOf bs) ta tn ts) ∧ (e' ≠ 0 → ∀ bs ts, b.length ≤ 20000 → poolP b = some ((bs, ts), []) → ¬ OkL bs ts) ∧ (b.length ≤ 20000 → (∀ x, poolP b ≠ some (x, [])) → e' = 9) := by
  rcases h with ⟨e', rfl, he, h1, h2⟩ | ⟨bs, ts, a, n, c, ta, tn, tc, rfl, hp, hok, hn, hP⟩
  · exact ⟨none, 0, 0, none, 0, 0, e', rfl, fun h => absurd h he, fun _ => h1, h2⟩
  · exact ⟨a, n, c, ta, tn, tc, 0, rfl, fun _ => ⟨bs, ts, hp, hok, hn, hP⟩, fun h => absurd rfl h, fun _ h => absurd hp (h _)⟩

theorem imgB_len (bs : List Blk) (ts : List TenE) : 4 ≤ (imgB bs ts).length := by
  unfold imgB lstB
  simp only [List.length_append, numB_len]
  omega
/-- what is read of a list is read of a longer one -/
def ExtP {α : Type} (P : List Int → Option (α × List Int)) : Prop := ∀ l x r s, P l = some (x, r) → P (l ++ s) = some (x, r ++ s)
def andP {α β : Type} (P : List Int → Option (α × List Int)) (f : α → List Int → Option (β × List Int)) (l : List Int) : Option (β × List Int) :=
  match P l with
  | none => none
  | some (x, r) => f x r
theorem ext_and {α β : Type} {P : List Int → Option (α × List Int)} {f : α → List Int → Option (β × List Int)} (hP : ExtP P) (hf : ∀ x, ExtP (f x)) : ExtP (andP P f) := by
  intro l x r s h
  unfold andP at h ⊢
  cases h1 : P l with
  | none => simp [h1] at h
  | some p =>
    obtain ⟨y, t⟩ := p
    rw [hP l y t s h1]
    simp only [h1] at h
    exact hf y t x r s h
theorem ext_pure {α : Type} (x : α) : ExtP (fun l => some (x, l)) := by
  intro l y r s h
  simp only [Option.some.injEq, Prod.mk.injEq] at h ⊢
  exact ⟨h.1, by rw [h.2]⟩
theorem numP_ext : ExtP numP := by
  intro l x r s h
  match l, h with
  | a :: b :: t, h =>
    simp only [numP, Option.some.injEq, Prod.mk.injEq] at h
    obtain ⟨rfl, rfl⟩ := h
    rfl
theorem takeP_ext (n : Nat) : ExtP (fun r => if n ≤ r.length then some (r.take n, r.drop n) else none) := by
  intro l x r s h
  by_cases hn : n ≤ l.length
  · simp only [hn, if_true, Option.some.injEq, Prod.mk.injEq] at h
    have h2 : n ≤ (l ++ s).length := by rw [List.length_append]; omega
    simp only [h2, if_true, Option.some.injEq, Prod.mk.injEq]
    rw [List.take_append_of_le_length hn, List.drop_append_of_le_length hn, h.1, h.2]
    exact ⟨rfl, rfl⟩
  · simp [hn] at h
theorem bytesP_ext : ExtP bytesP := by
  have e : bytesP = andP numP (fun n r => if n.toNat ≤ r.length then some (r.take n.toNat, r.drop n.toNat) else none) := by kernel_rfl
  rw [e]
  exact ext_and numP_ext (fun n => takeP_ext n.toNat)
theorem nameP_ext : ExtP nameP := by
  have e : nameP = andP bytesP (fun b l => some (strOfNums b, l)) := by kernel_rfl
  rw [e]
  exact ext_and bytesP_ext (fun b => ext_pure (strOfNums b))
theorem listP_ext {α : Type} {one : List Int → Option (α × List Int)} (h1 : ExtP one) : ∀ n, ExtP (listP one n)
  | 0 => ext_pure []
  | n + 1 => by
    have e : listP one (n + 1) = andP one (fun x => andP (listP one n) (fun xs l => some (x :: xs, l))) := by kernel_rfl
    rw [e]
    exact ext_and h1 (fun x => ext_and (listP_ext h1 n) (fun xs => ext_pure (x :: xs)))
theorem lst_ext {α : Type} {one : List Int → Option (α × List Int)} (h1 : ExtP one) : ExtP (andP numP (fun n => listP one n.toNat)) := ext_and numP_ext (fun n => listP_ext h1 n.toNat)
theorem entP_ext : ExtP entP := by
  have e : entP = andP nameP (fun s => andP numP (fun r => andP numP (fun z l => some ((⟨s, r, z⟩ : Ent), l)))) := by kernel_rfl
  rw [e]
  exact ext_and nameP_ext (fun s => ext_and numP_ext (fun r => ext_and numP_ext (fun z => ext_pure (⟨s, r, z⟩ : Ent))))
theorem filesP_ext : ExtP filesP := by
  have e : filesP = andP numP (fun n => listP entP n.toNat) := by kernel_rfl
  rw [e]
  exact lst_ext entP_ext
theorem snapP_ext : ExtP snapP := by
  have e : snapP = andP nameP (fun s => andP filesP (fun fs l => some ((⟨s, fs⟩ : SnapE), l))) := by kernel_rfl
  rw [e]
  exact ext_and nameP_ext (fun s => ext_and filesP_ext (fun fs => ext_pure (⟨s, fs⟩ : SnapE)))
theorem snapsP_ext : ExtP snapsP := by
  have e : snapsP = andP numP (fun n => listP snapP n.toNat) := by kernel_rfl
  rw [e]
  exact lst_ext snapP_ext
theorem setP_ext : ExtP setP := by
  have e : setP = andP nameP (fun s => andP filesP (fun fs => andP snapsP (fun ss l => some ((⟨s, fs, ss⟩ : SetE), l)))) := by kernel_rfl
  rw [e]
  exact ext_and nameP_ext (fun s => ext_and filesP_ext (fun fs => ext_and snapsP_ext (fun ss => ext_pure (⟨s, fs, ss⟩ : SetE))))
theorem setsP_ext : ExtP setsP := by
  have e : setsP = andP numP (fun n => listP setP n.toNat) := by kernel_rfl
  rw [e]
  exact lst_ext setP_ext
theorem tenP_ext : ExtP tenP := by
  have e : tenP = andP numP (fun k => andP numP (fun q => andP setsP (fun ss l => some ((⟨k, q, ss⟩ : TenE), l)))) := by kernel_rfl
  rw [e]
  exact ext_and numP_ext (fun k => ext_and numP_ext (fun q => ext_and setsP_ext (fun ss => ext_pure (⟨k, q, ss⟩ : TenE))))
theorem tensP_ext : ExtP tensP := by
  have e : tensP = andP numP (fun n => listP tenP n.toNat) := by kernel_rfl
  rw [e]
  exact lst_ext tenP_ext
theorem kidsP_ext : ExtP kidsP := by
  have e : kidsP = andP numP (fun n => listP numP n.toNat) := by kernel_rfl
  rw [e]
  exact lst_ext numP_ext
theorem blkP_ext : ExtP blkP := by
  have e : blkP = andP numP (fun r => andP numP (fun v => andP kidsP (fun ks => andP bytesP (fun b l => some ((⟨r, v, ks, b⟩ : Blk), l))))) := by kernel_rfl
  rw [e]
  exact ext_and numP_ext (fun r => ext_and numP_ext (fun v => ext_and kidsP_ext (fun ks => ext_and bytesP_ext (fun b => ext_pure (⟨r, v, ks, b⟩ : Blk)))))
theorem blksP_ext : ExtP blksP := by
  have e : blksP = andP numP (fun n => listP blkP n.toNat) := by kernel_rfl
  rw [e]
  exact lst_ext blkP_ext
theorem poolP_ext : ExtP poolP := by
  have e : poolP = andP blksP (fun bs => andP tensP (fun ts l => some ((bs, ts), l))) := by kernel_rfl
  rw [e]
  exact ext_and blksP_ext (fun bs => ext_and tensP_ext (fun ts => ext_pure (bs, ts)))

/-- without the last byte, or with one more, it is torn -/
theorem torn_less {bs : List Blk} {ts : List TenE} (h : OkL bs ts) {m : Nat} (hm : m + 1 = (imgB bs ts).length) (x : (List Blk × List TenE)) : poolP ((imgB bs ts).take m) ≠ some (x, []) := by
  intro e
  have e1 := poolP_ext _ _ _ ((imgB bs ts).drop m) e
  rw [List.take_append_drop, List.nil_append] at e1
  have e3 := PoolOk.parse h []
  rw [List.append_nil, e1] at e3
  simp only [Option.some.injEq, Prod.mk.injEq] at e3
  have e4 : ((imgB bs ts).drop m).length = 0 := by rw [e3.2]; rfl
  rw [List.length_drop] at e4
  omega
theorem torn_more {bs : List Blk} {ts : List TenE} (h : OkL bs ts) (y : Int) (x : (List Blk × List TenE)) : poolP (imgB bs ts ++ [y]) ≠ some (x, []) := by
  rw [PoolOk.parse h [y]]
  simp

end Go.Proofs.YtihkljfcplfldaaGreat

namespace Go.Proofs.YtihkljfcplfldaaGreat
open Go.RowKit

def zero92 : List Blk := List.replicate 92 Blk.zero
abbrev ten31 : List TenE := [⟨3, 1, []⟩]
theorem flatZ_len (n : Nat) : ((List.replicate n Blk.zero).flatMap blkB).length = n * 8 := by
  have e0 : blkB Blk.zero = [0, 0, 0, 0, 0, 0, 0, 0] := by decide
  rw [List.flatMap_replicate, List.length_flatten, List.map_replicate, e0]
  simp
theorem img92 : 20 ≤ (imgB zero92 ten31).length := by
  unfold imgB lstB zero92
  rw [List.length_append, List.length_append, flatZ_len]
  omega
theorem newZ {base : Nat} {e : Ending} {w : World} {n : Nat} (h : RetNw base e w n ten31) : ∃ a c ta tn tc, e = .returned (.tuple #[.agg #[.slice a n c, .slice ta tn tc], .int .i64 0]) ∧ PoolAt (fun _ => True) w a n (blksOf (List.replicate n Blk.zero)) ta tn ten31 := by
  obtain ⟨a, c, ta, tn, tc, rfl, hP, htc⟩ := h
  rw [blksOf_zero n] at hP
  exact ⟨a, c, ta, tn, tc, rfl, hP⟩

set_option maxHeartbeats 8000000 in
set_option maxRecDepth 100000 in
theorem kept_any (w : World) : Calls Tryz.prog 15 #[] w fun e w' => e = .returned (.bool true) ∧ Below w.heap.size w w' := by
  have hokA : Hid (PoolOk 91 (fun _ => Blk.zero) [⟨3, 1, []⟩]) := hid (poolOk_new (by omega) (by simp) (fun t ht => by simp only [List.mem_singleton] at ht; subst ht; simp) (by simp [sumQ]))
  have hokB : Hid (PoolOk 92 (fun _ => Blk.zero) [⟨3, 1, []⟩]) := hid (poolOk_new (by omega) (by simp) (fun t ht => by simp only [List.mem_singleton] at ht; subst ht; simp) (by simp [sumQ]))
  have b0 := hid (below_two w (.cells #[.int .i64 3] 3) (.cells #[.int .i64 1] 3))
  have hk : Hid (CellsAt _ w.heap.size #[.int .i64 3] 3) := hid ((cellsAt_alloc w _ _).below (below_alloc _ (.cells #[.int .i64 1] 3)))
  have hq := hid (cellsAt_alloc2 w (.cells #[.int .i64 3] 3) #[.int .i64 1] 3)
  go_enter Tryz.func15, Tryz.ntmps15
  go_wp2_with fail
  generalize (w.alloc (.cells #[.int .i64 3] 3)).alloc (.cells #[.int .i64 1] 3) = w0 at *
  refine (new1_any 91 3 1 w.heap.size (w.heap.size + 1) w0 (by omega) hk.out hq.out (by omega) hokA.out).mono ?_
  rintro e w1 ⟨hr, b1⟩
  obtain ⟨pa, pc, pta, ptn, ptc, rfl, hP⟩ := newZ hr
  have bA := hid (below_alloc w1 (.cells #[.slice pa 91 pc, .slice pta ptn ptc] 27))
  have kP : Hid (CellsAt _ w1.heap.size #[.slice pa 91 pc, .slice pta ptn ptc] 27) := hid (cellsAt_alloc w1 _ _)
  replace hP := hid (hP.below bA.out)
  replace b0 := hid (Below.tr (Below.tr b0.out b1) bA.out)
  clear hk hq b1 hr bA
  go_upto_region 2 with fail
  generalize w1.alloc (.cells #[.slice pa 91 pc, .slice pta ptn ptc] 27) = w2 at *
  have bB := hid (below_two w2 (.cells #[.int .i64 3] 3) (.cells #[.int .i64 1] 3))
  have hk : Hid (CellsAt _ w2.heap.size #[.int .i64 3] 3) := hid ((cellsAt_alloc w2 _ _).below (below_alloc _ (.cells #[.int .i64 1] 3)))
  have hq := hid (cellsAt_alloc2 w2 (.cells #[.int .i64 3] 3) #[.int .i64 1] 3)
  replace kP := hid (kP.out.below bB.out)
  replace hP := hid (hP.out.below bB.out)
  replace b0 := hid (Below.tr b0.out bB.out)
  clear bB
  go_wp2_with fail
  generalize (w2.alloc (.cells #[.int .i64 3] 3)).alloc (.cells #[.int .i64 1] 3) = w3 at *
  refine (new1_any 92 3 1 w2.heap.size (w2.heap.size + 1) w3 (by omega) hk.out hq.out (by omega) hokB.out).mono ?_
  rintro e w4 ⟨hr, b4⟩
  obtain ⟨qa, qc, qta, qtn, qtc, rfl, hQ⟩ := newZ hr
  have bA := hid (below_alloc w4 (.cells #[.slice qa 92 qc, .slice qta qtn qtc] 27))
  have kQ : Hid (CellsAt _ w4.heap.size #[.slice qa 92 qc, .slice qta qtn qtc] 27) := hid (cellsAt_alloc w4 _ _)
  replace hQ := hid (hQ.below bA.out)
  replace kP := hid ((kP.out.below b4).below bA.out)
  replace hP := hid ((hP.out.below b4).below bA.out)
  replace b0 := hid (Below.tr (Below.tr b0.out b4) bA.out)
  clear hk hq b4 hr bA
  go_upto_region 3 with fail
  generalize w4.alloc (.cells #[.slice qa 92 qc, .slice qta qtn qtc] 27) = w5 at *
  have x0 := kP.out.cell 0
  have x1 := kP.out.cell 1
  simp only [List.getElem?_toArray, List.getElem?_cons_zero, List.getElem?_cons_succ] at x0 x1
  go_wp2_with fail
  refine (commit_any none 0 0 [] none 0 0 [] (fun _ => True) pa 91 pc zero91 pta ptn ptc ten31 w5 (rowB_nil _) (rowB_nil _) hP.out rfl).mono ?_
  rintro e w6 ⟨hr, b6⟩
  obtain ⟨da, dn, dc, db, dm, dd, S1, rfl, hN1, rfl, hD1, hD2⟩ := hr.yes has_nil (by omega) ok91
  have hH1 := hid (has_whole has_nil hN1)
  have bA := hid (below_alloc w6 (.cells #[.slice da dn dc, .slice db dm dd] 53))
  have kD : Hid (CellsAt _ w6.heap.size #[.slice da dn dc, .slice db dm dd] 53) := hid (cellsAt_alloc w6 _ _)
  replace hD1 := hid (hD1.row.below bA.out)
  replace hD2 := hid (hD2.row.below bA.out)
  have hdn : Hid (dn = 9 + (imgB zero91 ten31).length) := hid (by rw [← hD1.out.nums.1]; show (nextS zero91 ten31 0).length = _; exact nextS_len _ _ _)
  have hdm : Hid (dm = 0) := hid (by rw [← hD2.out.nums.1]; rfl)
  replace kP := hid (((kP).out.below b6).below bA.out)
  replace hP := hid (((hP).out.below b6).below bA.out)
  replace kQ := hid (((kQ).out.below b6).below bA.out)
  replace hQ := hid (((hQ).out.below b6).below bA.out)
  replace b0 := hid (Below.tr (Below.tr b0.out b6) bA.out)
  replace hN1 := hid hN1
  clear b6 hr bA x0 x1
  go_upto_region 4 with fail
  generalize w6.alloc (.cells #[.slice da dn dc, .slice db dm dd] 53) = w7 at *
  generalize nextA [] 0 (nextS zero91 ten31 0) = A1 at *
  generalize nextB [] 0 (nextS zero91 ten31 0) = B1 at *
  have x0 := kD.out.cell 0
  have x1 := kD.out.cell 1
  simp only [List.getElem?_toArray, List.getElem?_cons_zero, List.getElem?_cons_succ] at x0 x1
  have y0 := kQ.out.cell 0
  have y1 := kQ.out.cell 1
  simp only [List.getElem?_toArray, List.getElem?_cons_zero, List.getElem?_cons_succ] at y0 y1
  go_wp2_with fail
  refine (torn_any da dn dc A1 db dm dd B1 (fun _ => True) qa 92 qc zero92 qta qtn qtc ten31 20 w7 hD1.out hD2.out hQ.out rfl).mono ?_
  rintro e w8 ⟨hr, b8⟩
  obtain ⟨ua, un, uc, ub, um, ud, S', rfl, hN2, ⟨j, hj, hjl, rfl⟩, hT1, hT2⟩ := hr.torn (fun e' f => by have := f.2; have := img92; omega) hH1.out (by omega) ok92
  have hj20 : j = 20 := by omega
  subst hj20
  have hH2 := hid (has_torn hH1.out hN2 (j := 20) (by rw [nextS_len]; have := img92; omega))
  have bA := hid (below_alloc w8 (.cells #[.slice ua un uc, .slice ub um ud] 53))
  have kT : Hid (CellsAt _ w8.heap.size #[.slice ua un uc, .slice ub um ud] 53) := hid (cellsAt_alloc w8 _ _)
  replace hT1 := hid (hT1.row.below bA.out)
  replace hT2 := hid (hT2.row.below bA.out)
  replace kP := hid (((kP).out.below b8).below bA.out)
  replace hP := hid (((hP).out.below b8).below bA.out)
  replace kQ := hid (((kQ).out.below b8).below bA.out)
  replace hQ := hid (((hQ).out.below b8).below bA.out)
  replace kD := hid (((kD).out.below b8).below bA.out)
  replace hD1 := hid (((hD1).out.below b8).below bA.out)
  replace hD2 := hid (((hD2).out.below b8).below bA.out)
  replace b0 := hid (Below.tr (Below.tr b0.out b8) bA.out)
  clear b8 hr bA x0 x1 y0 y1 hj hjl
  go_upto_region 5 with fail
  generalize w8.alloc (.cells #[.slice ua un uc, .slice ub um ud] 53) = w9 at *
  replace hN2 := hid hN2
  have x0 := kT.out.cell 0
  have x1 := kT.out.cell 1
  simp only [List.getElem?_toArray, List.getElem?_cons_zero, List.getElem?_cons_succ] at x0 x1
  go_wp2_with fail
  refine (recover_any ua un uc _ ub um ud _ w9 hT1.out hT2.out).mono ?_
  rintro e w10 ⟨hr, b10⟩
  obtain ⟨xa, xn, xc, xta, xtn, xtc, rfl, _, hxn, hX⟩ := hr.yes hH2.out (by decide)
  have bA := hid (below_alloc w10 (.cells #[.slice xa xn xc, .slice xta xtn xtc] 27))
  have kX : Hid (CellsAt _ w10.heap.size #[.slice xa xn xc, .slice xta xtn xtc] 27) := hid (cellsAt_alloc w10 _ _)
  replace hX := hid (hX.below bA.out)
  replace hxn := hid hxn
  replace kP := hid (((kP).out.below b10).below bA.out)
  replace hP := hid (((hP).out.below b10).below bA.out)
  replace kQ := hid (((kQ).out.below b10).below bA.out)
  replace hQ := hid (((hQ).out.below b10).below bA.out)
  replace kD := hid (((kD).out.below b10).below bA.out)
  replace hD1 := hid (((hD1).out.below b10).below bA.out)
  replace hD2 := hid (((hD2).out.below b10).below bA.out)
  replace b0 := hid (Below.tr (Below.tr b0.out b10) bA.out)
  clear b10 hr bA x0 x1 kT hT1 hT2
  go_upto_region 6 with fail
  generalize w10.alloc (.cells #[.slice xa xn xc, .slice xta xtn xtc] 27) = w11 at *
  have x0 := kD.out.cell 0
  have x1 := kD.out.cell 1
  simp only [List.getElem?_toArray, List.getElem?_cons_zero, List.getElem?_cons_succ] at x0 x1
  have y0 := kQ.out.cell 0
  have y1 := kQ.out.cell 1
  simp only [List.getElem?_toArray, List.getElem?_cons_zero, List.getElem?_cons_succ] at y0 y1
  go_wp2_with fail
  refine (commit_any da dn dc A1 db dm dd B1 (fun _ => True) qa 92 qc zero92 qta qtn qtc ten31 w11 hD1.out hD2.out hQ.out rfl).mono ?_
  rintro e w12 ⟨hr, b12⟩
  obtain ⟨ca, cn, cc, cb, cm, cd, S2, rfl, hN3, rfl, hC1, hC2⟩ := hr.yes hH1.out (by omega) ok92
  have hH3 := hid (has_whole hH1.out hN3)
  have bA := hid (below_alloc w12 (.cells #[.slice ca cn cc, .slice cb cm cd] 53))
  have kC : Hid (CellsAt _ w12.heap.size #[.slice ca cn cc, .slice cb cm cd] 53) := hid (cellsAt_alloc w12 _ _)
  replace hC1 := hid (hC1.row.below bA.out)
  replace hC2 := hid (hC2.row.below bA.out)
  replace kP := hid (((kP).out.below b12).below bA.out)
  replace hP := hid (((hP).out.below b12).below bA.out)
  replace kQ := hid (((kQ).out.below b12).below bA.out)
  replace hQ := hid (((hQ).out.below b12).below bA.out)
  replace kD := hid (((kD).out.below b12).below bA.out)
  replace hD1 := hid (((hD1).out.below b12).below bA.out)
  replace hD2 := hid (((hD2).out.below b12).below bA.out)
  replace kX := hid (((kX).out.below b12).below bA.out)
  replace hX := hid (((hX).out.below b12).below bA.out)
  replace b0 := hid (Below.tr (Below.tr b0.out b12) bA.out)
  clear b12 hr bA x0 x1 y0 y1
  replace hN3 := hid hN3
  go_upto_region 7 with fail
  generalize w12.alloc (.cells #[.slice ca cn cc, .slice cb cm cd] 53) = w13 at *
  have x0 := kC.out.cell 0
  have x1 := kC.out.cell 1
  simp only [List.getElem?_toArray, List.getElem?_cons_zero, List.getElem?_cons_succ] at x0 x1
  go_wp2_with fail
  refine (recover_any ca cn cc _ cb cm cd _ w13 hC1.out hC2.out).mono ?_
  rintro e w14 ⟨hr, b14⟩
  obtain ⟨ya, yn, yc, yta, ytn, ytc, rfl, _, hyn, hY⟩ := hr.yes hH3.out (by decide)
  have bA := hid (below_alloc w14 (.cells #[.slice ya yn yc, .slice yta ytn ytc] 27))
  have kY : Hid (CellsAt _ w14.heap.size #[.slice ya yn yc, .slice yta ytn ytc] 27) := hid (cellsAt_alloc w14 _ _)
  replace hY := hid (hY.below bA.out)
  replace hyn := hid hyn
  replace kP := hid (((kP).out.below b14).below bA.out)
  replace hP := hid (((hP).out.below b14).below bA.out)
  replace kQ := hid (((kQ).out.below b14).below bA.out)
  replace hQ := hid (((hQ).out.below b14).below bA.out)
  replace kD := hid (((kD).out.below b14).below bA.out)
  replace hD1 := hid (((hD1).out.below b14).below bA.out)
  replace hD2 := hid (((hD2).out.below b14).below bA.out)
  replace kX := hid (((kX).out.below b14).below bA.out)
  replace hX := hid (((hX).out.below b14).below bA.out)
  replace b0 := hid (Below.tr (Below.tr b0.out b14) bA.out)
  clear b14 hr bA x0 x1 kC hC1 hC2
  go_upto_region 8 with fail
  generalize w14.alloc (.cells #[.slice ya yn yc, .slice yta ytn ytc] 27) = w15 at *
  have x0 := kP.out.cell 0
  have x1 := kP.out.cell 1
  simp only [List.getElem?_toArray, List.getElem?_cons_zero, List.getElem?_cons_succ] at x0 x1
  have y0 := kX.out.cell 0
  have y1 := kX.out.cell 1
  simp only [List.getElem?_toArray, List.getElem?_cons_zero, List.getElem?_cons_succ] at y0 y1
  go_wp2_with fail
  refine (same_any (fun _ => True) (fun _ => True) pa 91 pc (blksOf zero91) pta ptn ptc ten31 xa xn xc (blksOf zero91) xta xtn xtc ten31 w15 hP.out hX.out).mono ?_
  rintro e w16 ⟨⟨t, rfl, ht⟩, b16⟩
  obtain rfl : t = true := ht.2 (same_true ok91 rfl hxn.out rfl rfl)
  replace kP := hid ((kP).out.below b16)
  replace hP := hid ((hP).out.below b16)
  replace kQ := hid ((kQ).out.below b16)
  replace hQ := hid ((hQ).out.below b16)
  replace kD := hid ((kD).out.below b16)
  replace hD1 := hid ((hD1).out.below b16)
  replace hD2 := hid ((hD2).out.below b16)
  replace kX := hid ((kX).out.below b16)
  replace hX := hid ((hX).out.below b16)
  replace kY := hid ((kY).out.below b16)
  replace hY := hid ((hY).out.below b16)
  replace b0 := hid (Below.tr b0.out b16)
  clear b16 ht x0 x1 y0 y1
  have x0 := kQ.out.cell 0
  have x1 := kQ.out.cell 1
  simp only [List.getElem?_toArray, List.getElem?_cons_zero, List.getElem?_cons_succ] at x0 x1
  have y0 := kY.out.cell 0
  have y1 := kY.out.cell 1
  simp only [List.getElem?_toArray, List.getElem?_cons_zero, List.getElem?_cons_succ] at y0 y1
  go_wp2_with fail
  refine (same_any (fun _ => True) (fun _ => True) qa 92 qc (blksOf zero92) qta qtn qtc ten31 ya yn yc (blksOf zero92) yta ytn ytc ten31 w16 hQ.out hY.out).mono ?_
  rintro e w17 ⟨⟨t, rfl, ht⟩, b17⟩
  obtain rfl : t = true := ht.2 (same_true ok92 rfl hyn.out rfl rfl)
  replace kD := hid (kD.out.below b17)
  replace b0 := hid (Below.tr b0.out b17)
  clear b17 ht x0 x1 y0 y1
  have hdnI : (9 : Int) < (dn : Int) := by have := hdn.out; have := imgB_len zero91 ten31; omega
  have hdmI : dm = 0 := hdm.out
  subst hdmI
  have x0 := kD.out.cell 0
  have x1 := kD.out.cell 1
  simp only [List.getElem?_toArray, List.getElem?_cons_zero, List.getElem?_cons_succ] at x0 x1
  go_wp2_with fail
  go_ret
  exact ⟨rfl, b0.out⟩
end Go.Proofs.YtihkljfcplfldaaGreat
