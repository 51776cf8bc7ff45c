/-
  PoolUsesA, PoolRA, PoolRB, OpenS, OpenT in one text. Nothing here is trusted.
-/
import Derived.Test.YtnmcgmpmcliinaaGreatPart38
import Derived.Test.YtnmcgmpmcliinaaGreatPart01
import Derived.WalkKit
import Derived.ProofKit
import Derived.OpenShut
import Derived.Deep.Slices
import Derived.Lib.SmallJoins
set_option linter.unusedVariables false
namespace Go.Proofs.YtnmcgmpmcliinaaGreat
open Go.RowKit
def askU : AskE := ⟨13, ⟨#[]⟩, ⟨#[]⟩, ⟨#[]⟩, 0, 0, []⟩
theorem askU_ok : askU.ok := by
  refine ⟨⟨?_, ?_, ?_⟩, ?_⟩
  · exact Nat.zero_le _
  · exact Nat.zero_le _
  · exact Nat.zero_le _
  · unfold askU
    simp
theorem askU_nums (w : World) : NumsAt (fun _ => True) .u8 w none 0 askU.bytes := ⟨rfl, fun x hx => by simp [askU] at hx, fun h => absurd h (by omega)⟩
theorem uses_uni {B : Nat → Blk} {R : List Int} {a b : Int} (h1 : Uses B R a) (h2 : Uses B R b) : a = b := by
  obtain ⟨L, l1, l2, rfl⟩ := h1
  obtain ⟨M, m1, m2, rfl⟩ := h2
  rw [rising_eq l1 m1 (fun x => (l2 x).trans (m2 x).symm)]
theorem Stays.uses {n : Nat} {B C : Nat → Blk} {R : List Int} {a : Int} (h : Stays n B C R) (h1 : Uses B R a) : Uses C R a := by
  obtain ⟨L, l1, l2, e⟩ := h1
  exact ⟨L, l1, fun x => (l2 x).trans ⟨fun f => h.clo f, fun f => h.back f⟩, e⟩
theorem case_uses {n : Nat} {B D : Nat → Blk} {l l' : List TenE} {i : Nat} {t : TenE} {e1 N : Int} (h : DoCase n B l i t askU D l' e1 N) : e1 = 0 ∧ Uses B (rootsT t) N := by
  have hk : askU.kind = 13 := rfl
  cases h with
  | noadd _ h1 => rw [hk] at h1; omega
  | add _ h1 => rw [hk] at h1; omega
  | uses _ _ h2 => exact ⟨rfl, h2⟩
  | missing _ h1 => exact absurd hk h1
  | look _ _ _ _ _ _ h1 => rw [hk] at h1; omega
  | destroy _ _ _ _ _ h1 => rw [hk] at h1; omega
  | noclone _ _ _ _ _ h1 => rw [hk] at h1; omega
  | clone _ _ _ _ _ _ _ h1 => rw [hk] at h1; omega
  | nochange _ _ _ _ _ h1 => exact absurd hk h1.2.1
  | change _ _ _ _ _ _ _ h1 => exact absurd hk h1.2.1
theorem at_big (k n : Int) (w : World) (h0 : 1 ≤ n) (h1 : n ≤ 1000000) :
    Calls Tryz.prog 13 #[.int .i64 k, .int .i64 n] w fun e w' => (∃ r : Nat, e = .returned (.int .i64 r) ∧ (r : Int) < n) ∧ w' = w := by
  have t1 := Int.tmod_lt_of_pos k (show 0 < n by omega)
  have t2 : -n < k.tmod n := by have := Int.tmod_lt_of_pos (-k) (show 0 < n by omega); rw [Int.neg_tmod] at this; omega
  have hnz : (n == 0) = false := by simp; omega
  generalize ht : k.tmod n = t at t1 t2
  by_cases hneg : t < 0
  · go_enter Tryz.func13, Tryz.ntmps13
    go_wp2
    go_ret
    exact ⟨⟨(t + n).toNat, congrArg (fun z => Ending.returned (.int .i64 z)) (show t + n = ((t + n).toNat : Int) by omega), by omega⟩, rfl⟩
  · go_enter Tryz.func13, Tryz.ntmps13
    go_wp2
    go_ret
    exact ⟨⟨t.toNat, congrArg (fun z => Ending.returned (.int .i64 z)) (show t = (t.toNat : Int) by omega), by omega⟩, rfl⟩
set_option maxHeartbeats 8000000 in
set_option maxRecDepth 100000 in
theorem poolUses_of (hpl : PooledIs) (Q : Nat → Prop) (pa : Option Addr) (n c : Nat) (B : Nat → Blk) (ta : Option Addr) (tn tc : Nat) (l : List TenE) (i : Int) (kk : Int) (a : AskE) (ba : Option Addr) (bn bc : Nat) (w : World) (hP : PoolAt Q w pa n B ta tn l) (hao : a.ok) (hB : NumsAt (fun _ => True) .u8 w ba bn a.bytes) :
    Calls Tryz.prog 4 #[.agg #[.slice pa n c, .slice ta tn tc], .int .i64 i, .agg #[.int .i64 a.kind, .string a.set, .string a.file, .string a.to, .int .i64 a.pos, .int .i64 a.num, .slice ba bn bc], .int .i64 kk] w fun e w' => e = .returned (.bool true) ∧ Below w.heap.size w w' := by
  have hsb := sb_enter w pa n c ta tn tc a ba bn bc
  unfold objA at hsb
  have hB0 := hid (hB.below hsb.bel)
  have hP0 := hid (hP.below hsb.bel)
  have hby : Hid (Bytes a.bytes) := hid hB.bytes
  replace hsb := hid hsb
  replace hpl := hid hpl
  replace hao := hid hao
  clear hP hB
  go_enter Tryz.func4, Tryz.ntmps4
  go_upto_region 1 with fail
  generalize (w.alloc (.cells #[.slice pa n c, .slice ta tn tc] 27)).alloc (.cells #[.int .i64 a.kind, .string a.set, .string a.file, .string a.to, .int .i64 a.pos, .int .i64 a.num, .slice ba bn bc] 30) = w0 at *
  have p0 := hsb.out.bP.cell 0
  have p1 := hsb.out.bP.cell 1
  have a0 := hsb.out.bA.cell 0
  have a1 := hsb.out.bA.cell 1
  have a2 := hsb.out.bA.cell 2
  have a3 := hsb.out.bA.cell 3
  have a4 := hsb.out.bA.cell 4
  have a5 := hsb.out.bA.cell 5
  have a6 := hsb.out.bA.cell 6
  simp only [List.getElem?_toArray, List.getElem?_cons_zero, List.getElem?_cons_succ] at p0 p1 a0 a1 a2 a3 a4 a5 a6
  go_wp2_with fail
  refine (pdo_any Q pa n c B ta tn tc l i a ba bn bc w0 hP0.out hao.out hB0.out).mono ?_
  clear p0 p1 a0 a1 a2 a3 a4 a5 a6
  rintro e w1 ⟨hret, b1⟩
  replace hsb := hid (hsb.out.below b1)
  replace hP0 := hid (hP0.out.below b1)
  clear b1 hB0
  unfold RetPD at hret
  rcases hret with ⟨e', rfl, hne, _⟩ | ⟨hok, k, t, rfl, ht, e1, N, ya, yn, yc, y, ln, lc, g, D, l', ua, uc, rfl, hc, hPD⟩
  · have hbe : (e' != 0) = true := by simp [hne]
    have b2 := hid (Below.tr (below_alloc w1 (.cells #[.slice none 0 0, .slice none 0 0] 27)) (below_alloc _ (.cells #[.int .i64 0, .int .i64 0, .slice none 0 0, .slice none 0 0] 34)))
    replace hsb := hid (hsb.out.below b2.out)
    go_upto_region 2 with fail
    generalize (w1.alloc (.cells #[.slice none 0 0, .slice none 0 0] 27)).alloc (.cells #[.int .i64 0, .int .i64 0, .slice none 0 0, .slice none 0 0] 34) = w2 at *
    go_wp2_with fail
    refine (hpl.out w2).mono ?_
    rintro e w3 ⟨rfl, b3⟩
    replace hsb := hid (hsb.out.below b3)
    clear b3 b2
    go_wp2_with fail
    refine (hpl.out w3).mono ?_
    rintro e w4 ⟨rfl, b4⟩
    replace hsb := hid (hsb.out.below b4)
    clear b4
    go_wp2_with fail
    go_ret
    exact ⟨rfl, hsb.out.bel⟩
  have hI := hid (hc.is hok ht hby.out)
  replace hok := hid hok
  replace ht := hid ht
  replace hPD := hid hPD
  clear hc
  have bq := hid (Below.tr (below_alloc w1 (.cells #[.slice (some ⟨g, 0, none⟩) n n, .slice ua tn uc] 27)) (below_alloc _ (.cells #[.int .i64 e1, .int .i64 N, .slice ya yn yc, .slice y ln lc] 34)))
  have kQ : Hid (CellsAt _ w1.heap.size #[.slice (some ⟨g, 0, none⟩) n n, .slice ua tn uc] 27) := hid ((cellsAt_alloc w1 _ _).below (below_alloc _ (.cells #[.int .i64 e1, .int .i64 N, .slice ya yn yc, .slice y ln lc] 34)))
  replace hsb := hid (hsb.out.below bq.out)
  replace hP0 := hid (hP0.out.below bq.out)
  replace hPD := hid (hPD.out.below bq.out)
  clear bq
  go_upto_region 2 with fail
  generalize (w1.alloc (.cells #[.slice (some ⟨g, 0, none⟩) n n, .slice ua tn uc] 27)).alloc (.cells #[.int .i64 e1, .int .i64 N, .slice ya yn yc, .slice y ln lc] 34) = w2 at *
  go_wp2_with fail
  refine (hpl.out w2).mono ?_
  rintro e w3 ⟨rfl, b3⟩
  replace hsb := hid (hsb.out.below b3)
  replace hP0 := hid (hP0.out.below b3)
  replace hPD := hid (hPD.out.below b3)
  replace kQ := hid (kQ.out.below b3)
  clear b3
  have hlen : Hid (l.length = tn) := hid hP0.out.tens.1
  have hlen' : Hid (l'.length = tn) := hid hPD.out.tens.1
  have htn : 1 ≤ tn ∧ tn ≤ 3 := by
    obtain ⟨h1, _⟩ := List.getElem?_eq_some_iff.1 ht.out
    have := hok.out.few
    have := hlen.out
    omega
  have p1 := hsb.out.bP.cell 1
  simp only [List.getElem?_toArray, List.getElem?_cons_zero, List.getElem?_cons_succ] at p1
  replace htn := hid htn
  go_wp2_with fail
  refine (at_big kk tn w3 (by have := htn.out; omega) (by have := htn.out; omega)).mono ?_
  rintro e w3' ⟨⟨r, rfl, hr⟩, hw⟩
  subst hw
  have hrt : Hid (r < tn) := hid (by omega)
  replace hr := hid hr
  have p0 := hsb.out.bP.cell 0
  simp only [List.getElem?_toArray, List.getElem?_cons_zero] at p0
  go_wp2_with fail
  refine (pdo_any Q pa n c B ta tn tc l r askU none 0 0 _ hP0.out askU_ok (askU_nums _)).mono ?_
  rintro e w4 ⟨hret, b4⟩
  unfold RetPD at hret
  rcases hret with ⟨e', rfl, hne, hno⟩ | ⟨_, k2, t2, ek2, ht2, e2, N2, ya2, yn2, yc2, y2, ln2, lc2, g2, D2, l2, ua2, uc2, rfl, hc2, _⟩
  · exact absurd ⟨hok.out, by omega, by have := hrt.out; omega⟩ hno
  obtain rfl : k2 = r := by omega
  obtain ⟨rfl, hU2⟩ := case_uses hc2
  replace hsb := hid (hsb.out.below b4)
  replace hP0 := hid (hP0.out.below b4)
  replace hPD := hid (hPD.out.below b4)
  replace kQ := hid (kQ.out.below b4)
  replace hU2 := hid hU2
  replace ht2 := hid ht2
  clear b4 p0 p1 hc2 ek2
  have bq := hid (Below.tr (below_alloc w4 (.cells #[.slice (some ⟨g2, 0, none⟩) n n, .slice ua2 tn uc2] 27)) (below_alloc _ (.cells #[.int .i64 0, .int .i64 N2, .slice ya2 yn2 yc2, .slice y2 ln2 lc2] 34)))
  have kX2 := hid (cellsAt_alloc2 w4 (.cells #[.slice (some ⟨g2, 0, none⟩) n n, .slice ua2 tn uc2] 27) #[.int .i64 0, .int .i64 N2, .slice ya2 yn2 yc2, .slice y2 ln2 lc2] 34)
  replace hsb := hid (hsb.out.below bq.out)
  replace hP0 := hid (hP0.out.below bq.out)
  replace hPD := hid (hPD.out.below bq.out)
  replace kQ := hid (kQ.out.below bq.out)
  clear bq
  go_upto_region 6 with fail
  generalize (w4.alloc (.cells #[.slice (some ⟨g2, 0, none⟩) n n, .slice ua2 tn uc2] 27)).alloc (.cells #[.int .i64 0, .int .i64 N2, .slice ya2 yn2 yc2, .slice y2 ln2 lc2] 34) = w5 at *
  have q0 := kQ.out.cell 0
  have q1 := kQ.out.cell 1
  simp only [List.getElem?_toArray, List.getElem?_cons_zero, List.getElem?_cons_succ] at q0 q1
  go_wp2_with fail
  refine (pdo_any (fun _ => True) (some ⟨g, 0, none⟩) n n D ua tn uc l' k2 askU none 0 0 _ hPD.out askU_ok (askU_nums _)).mono ?_
  rintro e w6 ⟨hret, b6⟩
  unfold RetPD at hret
  rcases hret with ⟨e', rfl, hne, hno⟩ | ⟨_, k3, t3, ek3, ht3, e3, N3, ya3, yn3, yc3, y3, ln3, lc3, g3, D3, l3, ua3, uc3, rfl, hc3, _⟩
  · exact absurd ⟨hI.out.ok, by omega, by have := hrt.out; omega⟩ hno
  obtain rfl : k3 = k2 := by omega
  obtain ⟨rfl, hU3⟩ := case_uses hc3
  have hfin : N2 ≤ t2.quota ∧ N3 ≤ t2.quota ∧ (k3 = k ∨ N2 = N3) := by
    obtain ⟨m2, u2, v2⟩ := hok.out.uses t2 (List.mem_of_getElem? ht2.out)
    obtain ⟨m3, u3, v3⟩ := hI.out.ok.uses t3 (List.mem_of_getElem? ht3)
    obtain rfl := uses_uni hU2.out u2
    obtain rfl := uses_uni hU3 u3
    obtain ⟨t', el, ek, eq⟩ := hI.out.set
    obtain ⟨hkl, hte⟩ := List.getElem?_eq_some_iff.1 ht.out
    by_cases e : k3 = k
    · have ht3' := ht3
      rw [el, e, List.getElem?_set_self hkl] at ht3'
      simp only [Option.some.injEq] at ht3'
      have ht2' := ht2.out
      rw [e, ht.out] at ht2'
      simp only [Option.some.injEq] at ht2'
      subst ht3' ht2'
      exact ⟨v2, by rw [← eq]; exact v3, .inl e⟩
    · have ht3' := ht3
      rw [el, List.getElem?_set_ne (fun f => e f.symm), ht2.out] at ht3'
      simp only [Option.some.injEq] at ht3'
      subst ht3'
      exact ⟨v2, v3, .inr (uses_uni ((hI.out.oth k3 t2 ht2.out e).uses hU2.out) hU3)⟩
  obtain ⟨hf2, hf3, hf⟩ := hfin
  have bq := hid (Below.tr (below_alloc w6 (.cells #[.slice (some ⟨g3, 0, none⟩) n n, .slice ua3 tn uc3] 27)) (below_alloc _ (.cells #[.int .i64 0, .int .i64 N3, .slice ya3 yn3 yc3, .slice y3 ln3 lc3] 34)))
  have kX3 := hid (cellsAt_alloc2 w6 (.cells #[.slice (some ⟨g3, 0, none⟩) n n, .slice ua3 tn uc3] 27) #[.int .i64 0, .int .i64 N3, .slice ya3 yn3 yc3, .slice y3 ln3 lc3] 34)
  replace hsb := hid ((hsb.out.below b6).below bq.out)
  replace hP0 := hid ((hP0.out.below b6).below bq.out)
  replace kX2 := hid ((kX2.out.below b6).below bq.out)
  clear bq b6 q0 q1 ek3 hc3 hU3 ht3 kQ hPD
  go_upto_region 7 with fail
  generalize (w6.alloc (.cells #[.slice (some ⟨g3, 0, none⟩) n n, .slice ua3 tn uc3] 27)).alloc (.cells #[.int .i64 0, .int .i64 N3, .slice ya3 yn3 yc3, .slice y3 ln3 lc3] 34) = w7 at *
  obtain ⟨tb, to, rfl, hb1, _, h1⟩ := hP0.out.tens.2 (by have := htn.out; omega)
  obtain ⟨sa, sn, sc, x1⟩ := h1 k3 hrt.out
  have eT : l.getD k3 TenE.zero = t2 := by rw [List.getD_eq_getElem?_getD, ht2.out]; rfl
  rw [eT] at x1
  have c1 := x1.c1
  have x2 := kX2.out.cell 1
  have x3 := kX3.out.cell 1
  have p1 := hsb.out.bP.cell 1
  simp only [List.getElem?_toArray, List.getElem?_cons_zero, List.getElem?_cons_succ] at x2 x3 p1
  have hr0 : (0 : Int) ≤ (k3 : Int) := by omega
  have hrI : (k3 : Int) < (tn : Int) := by have := hrt.out; omega
  have g2' : decide (N2 ≤ t2.quota) = true := by simp [hf2]
  have g3' : decide (N3 ≤ t2.quota) = true := by simp [hf3]
  replace hf2 := hid hf2
  replace hf3 := hid hf3
  clear x1 h1 eT
  by_cases e : k3 = k
  · have he : ((k3 : Int) == (k : Int)) = true := by simp [e]
    replace e := hid e
    replace hf := hid hf
    go_region
    go_wp2_with fail
    go_ret
    exact ⟨rfl, hsb.out.bel.trans (below_drew _ _)⟩
  · have he : ((k3 : Int) == (k : Int)) = false := by
      simp only [beq_eq_false_iff_ne, ne_eq]
      omega
    have hN : (N2 == N3) = true := by
      rcases hf with f | f
      · exact absurd f e
      · simp [f]
    replace e := hid e
    replace hf := hid hf
    go_region
    go_wp2_with fail
    go_ret
    exact ⟨rfl, hsb.out.bel.trans (below_drew _ _)⟩
end Go.Proofs.YtnmcgmpmcliinaaGreat

namespace Go.Proofs.YtnmcgmpmcliinaaGreat
open Go.RowKit
structure AnsV where
  e : Int
  N : Int
  ya : Option Addr
  yn : Nat
  yc : Nat
  y : Option Addr
  ln : Nat
  lc : Nat
def AnsV.zero : AnsV := ⟨0, 0, none, 0, 0, none, 0, 0⟩
def AnsAt (w : World) (rb n : Nat) (v : Nat → AnsV) : Prop :=
  ∃ cs : Array Value, CellsAt w rb cs 34 ∧ cs.size = n * 4 ∧ ∀ i, i < n → cs[i * 4]? = some (.int .i64 (v i).e) ∧ cs[i * 4 + 1]? = some (.int .i64 (v i).N) ∧ cs[i * 4 + 2]? = some (.slice (v i).ya (v i).yn (v i).yc) ∧ cs[i * 4 + 3]? = some (.slice (v i).y (v i).ln (v i).lc)
theorem AnsAt.lt {w : World} {rb n : Nat} {v : Nat → AnsV} (h : AnsAt w rb n v) : rb < w.heap.size := by
  obtain ⟨cs, k, _⟩ := h
  exact k.lt
theorem AnsAt.below {w w' : World} {rb n : Nat} {v : Nat → AnsV} (h : AnsAt w rb n v) (b : Below w.heap.size w w') : AnsAt w' rb n v := by
  obtain ⟨cs, k, h1, h2⟩ := h
  exact ⟨cs, k.below b, h1, h2⟩
theorem AnsAt.only {M : Nat → Prop} {w w' : World} {rb n : Nat} {v : Nat → AnsV} (h : AnsAt w rb n v) (on : Only M w w') (hm : ¬ M rb) : AnsAt w' rb n v := by
  obtain ⟨cs, k, h1, h2⟩ := h
  exact ⟨cs, on.cells k hm, h1, h2⟩
theorem AnsAt.cells {w : World} {rb n : Nat} {v : Nat → AnsV} (h : AnsAt w rb n v) {i : Nat} (hi : i < n) : w.cell? ⟨rb, i * 4, none⟩ = some (.int .i64 (v i).e) ∧ w.cell? ⟨rb, i * 4 + 1, none⟩ = some (.int .i64 (v i).N) ∧ w.cell? ⟨rb, i * 4 + 2, none⟩ = some (.slice (v i).ya (v i).yn (v i).yc) ∧ w.cell? ⟨rb, i * 4 + 3, none⟩ = some (.slice (v i).y (v i).ln (v i).lc) := by
  obtain ⟨cs, k, h1, h2⟩ := h
  obtain ⟨a, b, c, d⟩ := h2 i hi
  exact ⟨(k.cell _).trans a, (k.cell _).trans b, (k.cell _).trans c, (k.cell _).trans d⟩
theorem AnsAt.free {w : World} {rb n : Nat} {v : Nat → AnsV} (h : AnsAt w rb n v) (i : Nat) : w.frozen? ⟨rb, i, none⟩ = false := by
  obtain ⟨cs, k, h1, h2⟩ := h
  exact k.frozen i
abbrev putR (w : World) (rb i : Nat) (e1 N : Int) (ya : Option Addr) (yn yc : Nat) (y : Option Addr) (ln lc : Nat) : World := (((w.setCell ⟨rb, i * 4, none⟩ (.int .i64 e1)).setCell ⟨rb, i * 4 + 1, none⟩ (.int .i64 N)).setCell ⟨rb, i * 4 + 2, none⟩ (.slice ya yn yc)).setCell ⟨rb, i * 4 + 3, none⟩ (.slice y ln lc)
theorem kept_putR (w : World) (rb i : Nat) (e1 N : Int) (ya : Option Addr) (yn yc : Nat) (y : Option Addr) (ln lc : Nat) : Kept rb w (putR w rb i e1 N ya yn yc y ln lc) :=
  Kept.setCell (g := rb) (Kept.setCell (g := rb) (Kept.setCell (g := rb) (Kept.setCell (g := rb) (Kept.refl _ _) (p := ⟨rb, i * 4, none⟩) rfl _) (p := ⟨rb, i * 4 + 1, none⟩) rfl _) (p := ⟨rb, i * 4 + 2, none⟩) rfl _) (p := ⟨rb, i * 4 + 3, none⟩) rfl _
def putV (v : Nat → AnsV) (i : Nat) (x : AnsV) : Nat → AnsV := fun j => if j = i then x else v j
theorem putV_self (v : Nat → AnsV) (i : Nat) (x : AnsV) : putV v i x i = x := by simp [putV]
theorem putV_ne (v : Nat → AnsV) {i j : Nat} (x : AnsV) (h : j ≠ i) : putV v i x j = v j := by simp [putV, h]
theorem AnsAt.put {w : World} {rb n : Nat} {v : Nat → AnsV} (h : AnsAt w rb n v) {i : Nat} (hi : i < n) (e1 N : Int) (ya : Option Addr) (yn yc : Nat) (y : Option Addr) (ln lc : Nat) : AnsAt (putR w rb i e1 N ya yn yc y ln lc) rb n (putV v i ⟨e1, N, ya, yn, yc, y, ln, lc⟩) := by
  obtain ⟨cs, k, h1, h2⟩ := h
  have k' := (((k.set (i * 4) (.int .i64 e1)).set (i * 4 + 1) (.int .i64 N)).set (i * 4 + 2) (.slice ya yn yc)).set (i * 4 + 3) (.slice y ln lc)
  refine ⟨_, k', by simp [h1], fun j hj => ?_⟩
  by_cases e : j = i
  · subst e
    rw [putV_self]
    simp only [Array.getElem?_setIfInBounds, Array.size_setIfInBounds]
    refine ⟨?_, ?_, ?_, ?_⟩ <;> (simp; omega)
  · rw [putV_ne v _ e]
    obtain ⟨a, b, c, d⟩ := h2 j hj
    simp only [Array.getElem?_setIfInBounds, Array.size_setIfInBounds]
    refine ⟨?_, ?_, ?_, ?_⟩
    · rw [if_neg (by omega), if_neg (by omega), if_neg (by omega), if_neg (by omega)]; exact a
    · rw [if_neg (by omega), if_neg (by omega), if_neg (by omega), if_neg (by omega)]; exact b
    · rw [if_neg (by omega), if_neg (by omega), if_neg (by omega), if_neg (by omega)]; exact c
    · rw [if_neg (by omega), if_neg (by omega), if_neg (by omega), if_neg (by omega)]; exact d
theorem AnsAt.putE {w : World} {rb n : Nat} {v : Nat → AnsV} (h : AnsAt w rb n v) {i : Nat} (hi : i < n) (e1 : Int) : AnsAt (w.setCell ⟨rb, i * 4, none⟩ (.int .i64 e1)) rb n (putV v i { v i with e := e1 }) := by
  obtain ⟨cs, k, h1, h2⟩ := h
  have k' := (k.set (i * 4) (.int .i64 e1))
  refine ⟨_, k', by simp [h1], fun j hj => ?_⟩
  by_cases e : j = i
  · subst e
    rw [putV_self]
    obtain ⟨a, b, c, d⟩ := h2 j hj
    simp only [Array.getElem?_setIfInBounds]
    refine ⟨by simp; omega, ?_, ?_, ?_⟩
    · rw [if_neg (by omega)]; exact b
    · rw [if_neg (by omega)]; exact c
    · rw [if_neg (by omega)]; exact d
  · rw [putV_ne v _ e]
    obtain ⟨a, b, c, d⟩ := h2 j hj
    simp only [Array.getElem?_setIfInBounds]
    refine ⟨?_, ?_, ?_, ?_⟩
    · rw [if_neg (by omega)]; exact a
    · rw [if_neg (by omega)]; exact b
    · rw [if_neg (by omega)]; exact c
    · rw [if_neg (by omega)]; exact d
inductive RunsTo (n : Nat) (B : Nat → Blk) (l : List TenE) : List (Int × AskE) → (Nat → Blk) → List TenE → List (Int × Int) → Prop
  | nil : RunsTo n B l [] B l []
  | miss (xs : List (Int × AskE)) (D : Nat → Blk) (m : List TenE) (ys : List (Int × Int)) (i : Int) (a : AskE) : RunsTo n B l xs D m ys → ¬ (0 ≤ i ∧ i < (m.length : Int)) → RunsTo n B l (xs ++ [(i, a)]) D m (ys ++ [(5, 0)])
  | step (xs : List (Int × AskE)) (D : Nat → Blk) (m : List TenE) (ys : List (Int × Int)) (k : Nat) (a : AskE) (t : TenE) (D' : Nat → Blk) (m' : List TenE) (e1 N : Int) : RunsTo n B l xs D m ys → m[k]? = some t → DoCase n D m k t a D' m' e1 N → RunsTo n B l (xs ++ [((k : Int), a)]) D' m' (ys ++ [(e1, N)])
def ansL (v : Nat → AnsV) (k : Nat) : List (Int × Int) := (List.range k).map fun i => ((v i).e, (v i).N)
theorem ansL_succ (v : Nat → AnsV) (k : Nat) (x : AnsV) : ansL (putV v k x) (k + 1) = ansL v k ++ [(x.e, x.N)] := by
  unfold ansL
  rw [List.range_succ, List.map_append]
  congr 1
  · refine List.map_congr_left (fun i hi => ?_)
    have : i < k := by simpa using hi
    rw [putV_ne v x (by omega)]
  · simp [putV_self]
def LastRd (base : Nat) (w : World) (D : Nat → Blk) (m : List TenE) (xs : List (Int × AskE)) (k : Nat) (v : Nat → AnsV) : Prop :=
  ∀ (j i : Nat) (a : AskE) (t : TenE) (x : SetE), k = j + 1 → xs[j]? = some ((i : Int), a) → m[i]? = some t → x ∈ t.sets → x.nm = a.set.data.toList → (a.kind = 11 ∨ a.kind = 12) → RdIs base w D t.key x a (v j).e (v j).y (v j).ln (v j).lc
structure RunI (H : Nat) (X : Nat → Prop) (W w : World) (ob rb n q : Nat) (B : Nat → Blk) (l : List TenE) (xs : List (Int × AskE)) (ta : Option Addr) (tn tc : Nat) (k g : Nat) (D : Nat → Blk) (L : List TenM) (v : Nat → AnsV) : Prop where
  bel : Below H W w
  st : PSt H X w ob g n D ta tn tc L
  ans : AnsAt w rb q v
  todo : ∀ i, k ≤ i → v i = AnsV.zero
  ok : PoolOk n D (L.map TenM.e)
  runs : RunsTo n B l (xs.take k) D (L.map TenM.e) (ansL v k)
  last : LastRd (rb + 1) w D (L.map TenM.e) xs k v
  xrb : X rb ∧ rb ≠ ob ∧ H ≤ rb
theorem RunI.below {H : Nat} {X : Nat → Prop} {W w w' : World} {ob rb n q : Nat} {B : Nat → Blk} {l : List TenE} {xs : List (Int × AskE)} {ta : Option Addr} {tn tc k g : Nat} {D : Nat → Blk} {L : List TenM} {v : Nat → AnsV} (h : RunI H X W w ob rb n q B l xs ta tn tc k g D L v) (b : Below w.heap.size w w') : RunI H X W w' ob rb n q B l xs ta tn tc k g D L v :=
  ⟨h.bel.trans (b.mono h.st.mine.sz), h.st.below b, h.ans.below b, h.todo, h.ok, h.runs, fun j i a t x h1 h2 h3 h4 h5 h6 => (h.last j i a t x h1 h2 h3 h4 h5 h6).map (fun l hl => hl.below b), h.xrb⟩
theorem take_run {xs : List (Int × AskE)} {k : Nat} {x : Int × AskE} (h : xs[k]? = some x) : xs.take (k + 1) = xs.take k ++ [x] := by
  obtain ⟨h1, rfl⟩ := List.getElem?_eq_some_iff.1 h
  rw [List.take_add_one, List.getElem?_eq_getElem h1]
  rfl
theorem RunI.miss {H : Nat} {X : Nat → Prop} {W w : World} {ob rb n q : Nat} {B : Nat → Blk} {l : List TenE} {xs : List (Int × AskE)} {ta : Option Addr} {tn tc k g : Nat} {D : Nat → Blk} {L : List TenM} {v : Nat → AnsV} {i : Int} {a : AskE} (h : RunI H X W w ob rb n q B l xs ta tn tc k g D L v) (hk : k < q) (hx : xs[k]? = some (i, a)) (hno : ¬ (0 ≤ i ∧ i < (tn : Int))) : RunI H X W (w.setCell ⟨rb, k * 4, none⟩ (.int .i64 5)) ob rb n q B l xs ta tn tc (k + 1) g D L (putV v k { v k with e := 5 }) := by
  have kk : Kept rb w (w.setCell ⟨rb, k * 4, none⟩ (.int .i64 5)) := Kept.setCell (g := rb) (Kept.refl _ _) (p := ⟨rb, k * 4, none⟩) rfl _
  have hlen := h.st.mine.len
  have hz := h.todo k (Nat.le_refl _)
  refine ⟨h.bel.trans (kk.below h.xrb.2.2), h.st.kept kk h.xrb.1 h.xrb.2.1, h.ans.putE hk 5, fun i hi => ?_, h.ok, ?_, fun j i' a' t x h1 h2 h3 _ _ _ => ?_, h.xrb⟩
  · rw [putV_ne v _ (by omega)]; exact h.todo i (by omega)
  · rw [take_run hx, ansL_succ]
    have e : ({ v k with e := 5 } : AnsV).N = 0 := by rw [hz]; rfl
    rw [e]
    exact .miss _ _ _ _ _ _ h.runs (by rw [List.length_map, hlen]; exact hno)
  · obtain rfl : k = j := by omega
    rw [hx] at h2
    simp only [Option.some.injEq, Prod.mk.injEq] at h2
    obtain ⟨hi, _⟩ := List.getElem?_eq_some_iff.1 h3
    rw [List.length_map, hlen] at hi
    exact absurd ⟨by omega, by omega⟩ hno
theorem RunI.step {H : Nat} {X : Nat → Prop} {W w w' : World} {ob rb n q : Nat} {B : Nat → Blk} {l : List TenE} {xs : List (Int × AskE)} {tb tn tc k g g' : Nat} {D D' : Nat → Blk} {L L' : List TenM} {v : Nat → AnsV} {i : Nat} {a : AskE} {m : TenM} {e1 N : Int} {ya : Option Addr} {yn yc : Nat} {y : Option Addr} {ln lc : Nat} (h : RunI H X W w ob rb n q B l xs (some ⟨tb, 0, none⟩) tn tc k g D L v) (hk : k < q) (hx : xs[k]? = some ((i : Int), a)) (hm : L[i]? = some m) (hb : Bytes a.bytes)
    (bH : Below H w w') (on : Only (PM ob tb tn tc L) w w') (hP : PSt H X w' ob g' n D' (some ⟨tb, 0, none⟩) tn tc L') (hc : DoCase n D (L.map TenM.e) i m.e a D' (L'.map TenM.e) e1 N) (hr : ∀ (k : Nat) (x : SetE), m.e.sets[k]? = some x → x.nm = a.set.data.toList → (a.kind = 11 ∨ a.kind = 12) → RdIs w.heap.size w' D m.key x a e1 y ln lc) :
    RunI H X W (putR w' rb k e1 N ya yn yc y ln lc) ob rb n q B l xs (some ⟨tb, 0, none⟩) tn tc (k + 1) g' D' L' (putV v k ⟨e1, N, ya, yn, yc, y, ln, lc⟩) := by
  have kk := kept_putR w' rb k e1 N ya yn yc y ln lc
  have hrl := h.ans.lt
  have hmI : (L.map TenM.e)[i]? = some m.e := by rw [List.getElem?_map, hm]; rfl
  have hI := hc.is h.ok hmI hb
  have hnm : ¬ PM ob tb tn tc L rb := fun f => by
    rcases f with f | f
    · exact h.xrb.2.1 f
    · exact h.st.mine.rx _ f h.xrb.1
  refine ⟨(h.bel.trans bH).trans (kk.below h.xrb.2.2), hP.kept kk h.xrb.1 h.xrb.2.1, (h.ans.only on hnm).put hk _ _ _ _ _ _ _ _, fun j hj => ?_, hI.ok, ?_, fun j i' a' t x h1 h2 h3 h4 h5 h6 => ?_, h.xrb⟩
  · rw [putV_ne v _ (by omega)]; exact h.todo j (by omega)
  · rw [take_run hx, ansL_succ]
    exact .step _ _ _ _ _ _ _ _ _ _ _ h.runs hmI hc
  · obtain rfl : k = j := by omega
    rw [hx] at h2
    simp only [Option.some.injEq, Prod.mk.injEq] at h2
    obtain ⟨e, rfl⟩ := h2
    obtain rfl : i = i' := by omega
    obtain ⟨eD, eL⟩ := hI.still (by omega)
    rw [eL, hmI] at h3
    simp only [Option.some.injEq] at h3
    subst h3
    obtain ⟨kx, hkx⟩ := List.getElem?_of_mem h4
    rw [putV_self, eD]
    exact (hr kx x hkx h5 h6).map (fun l hl => (hl.kept (g := rb) (fun b hb => by omega) kk).weaken (fun b _ q => by omega))
theorem Tryz.infoAns : (Tryz.prog.info? 34).map (fun i => (i.zero, i.size, i.bytes)) = some (some (.agg #[.int .i64 0, .int .i64 0, .slice none 0 0, .slice none 0 0]), 4, 64) := by kernel_rfl
theorem make_ans (n : Nat) (hn : n ≤ 60) (w : World) : ∃ cs : Array Value, (Instr.makeSlice 74 (.int .i64 n) (.int .i64 n)).run Tryz.prog w = .ok (.slice (some ⟨w.heap.size, 0, none⟩) n n) (w.alloc (.cells cs 34)) ∧ AnsAt (w.alloc (.cells cs 34)) w.heap.size n (fun _ => AnsV.zero) := by
  obtain ⟨i0, hi, hz0, hz1, hz2⟩ := info_parts Tryz.infoAns
  refine ⟨madeCells (Value.agg #[.int .i64 0, .int .i64 0, .slice none 0 0, .slice none 0 0]).cells (n * 4), ?_, ?_⟩
  · rw [run_makeSlice (P := Tryz.prog) w 74 34 i0 _ Tryz.underlying74 hi hz0 .i64 .i64 n n (by omega) (by omega) (by rw [hz1]; omega) (by rw [hz2]; omega) (by omega), hz1]
    simp
  · refine ⟨_, cellsAt_alloc w _ _, by simp [madeCells], fun i hi => ?_⟩
    have h := fun k hk => made_blks n i k hi hk
    have h0 := h 0 (by omega)
    have h1 := h 1 (by omega)
    have h2 := h 2 (by omega)
    have h3 := h 3 (by omega)
    simp only [Array.getElem?_toList] at h0 h1 h2 h3
    exact ⟨h0, h1, h2, h3⟩
end Go.Proofs.YtnmcgmpmcliinaaGreat

namespace Go.Proofs.YtnmcgmpmcliinaaGreat
open Go.RowKit
def RetRun (e : Ending) (w : World) (n : Nat) (B : Nat → Blk) (tn : Nat) (l : List TenE) (q : Nat) (xs : List (Int × AskE)) : Prop :=
  ∃ (g : Nat) (ta : Option Addr) (tc rb : Nat) (D : Nat → Blk) (l' : List TenE) (v : Nat → AnsV), e = .returned (.tuple #[.agg #[.slice (some ⟨g, 0, none⟩) n n, .slice ta tn tc], .slice (some ⟨rb, 0, none⟩) q q, .int .i64 0]) ∧ PoolAt (fun _ => True) w (some ⟨g, 0, none⟩) n D ta tn l' ∧ AnsAt w rb q v ∧ PoolOk n D l' ∧ RunsTo n B l xs D l' (ansL v q) ∧ LastRd 0 w D l' xs q v
theorem zip_at {w : World} {wa qa : Option Addr} {q : Nat} {who : List Int} {ql : List AskE} (hw : NumsAt (fun _ => True) .i64 w wa q who) (hq : AsksAt w qa q ql) {k : Nat} (hk : k < q) : (who.zip ql)[k]? = some (who.getD k 0, ql.getD k AskE.zero) := by
  have h1 : k < who.length := by rw [hw.1]; exact hk
  have h2 : k < ql.length := by rw [hq.1]; exact hk
  rw [List.getElem?_zip_eq_some]
  refine ⟨?_, ?_⟩
  · show who[k]? = some (who.getD k 0)
    rw [List.getD_eq_getElem?_getD, List.getElem?_eq_getElem h1]; rfl
  · show ql[k]? = some (ql.getD k AskE.zero)
    rw [List.getD_eq_getElem?_getD, List.getElem?_eq_getElem h2]; rfl
set_option maxHeartbeats 8000000 in
set_option maxRecDepth 100000 in
theorem prun_any (Q : Nat → Prop) (pa : Option Addr) (n c : Nat) (B : Nat → Blk) (ta : Option Addr) (tn tc : Nat) (l : List TenE) (wa : Option Addr) (wc : Nat) (who : List Int) (qa : Option Addr) (q qc : Nat) (ql : List AskE) (w : World) (hP : PoolAt Q w pa n B ta tn l) (hok : PoolOk n B l) (hwho : NumsAt (fun _ => True) .i64 w wa q who) (hq : AsksAt w qa q ql) (h60 : q ≤ 60) :
    Calls Tryz.prog 25 #[.agg #[.slice pa n c, .slice ta tn tc], .slice wa q wc, .slice qa q qc] w fun e w' => RetRun e w' n B tn l q (who.zip ql) ∧ Below w.heap.size w w' := by
  have b0 := below_two w (.cells #[.slice pa n c, .slice ta tn tc] 27) (.cells #[.slice none 0 0, .slice none 0 0] 27)
  have k0 : CellsAt _ w.heap.size #[.slice pa n c, .slice ta tn tc] 27 := (cellsAt_alloc w _ _).below (below_alloc _ (.cells #[.slice none 0 0, .slice none 0 0] 27))
  have k1 := cellsAt_alloc2 w (.cells #[.slice pa n c, .slice ta tn tc] 27) #[.slice none 0 0, .slice none 0 0] 27
  have hPK : Hid (PoolAt (fun b => b < w.heap.size) w pa n B ta tn l) := hid ⟨hP.store, hP.tens.weaken (fun b hb _ => hb)⟩
  have hP0 := hid (hP.below b0)
  replace b0 := hid b0
  replace k0 := hid k0
  replace k1 := hid k1
  replace hok := hid hok
  replace hwho := hid hwho
  replace hq := hid hq
  have h60' : decide ((60 : Int) < (q : Int)) = false := by simp; omega
  replace h60 := hid h60
  clear hP
  go_enter Tryz.func25, Tryz.ntmps25
  go_upto_region 1 with fail
  generalize (w.alloc (.cells #[.slice pa n c, .slice ta tn tc] 27)).alloc (.cells #[.slice none 0 0, .slice none 0 0] 27) = w0 at *
  have p0 := k0.out.cell 0
  have p1 := k0.out.cell 1
  simp at p0 p1
  go_wp2_with fail
  refine (poolCheck_any Q pa n c B ta tn tc l w0 hP0.out).mono ?_
  rintro e w1 ⟨⟨e1, rfl, he1⟩, b1⟩
  obtain rfl : e1 = 0 := he1.2 hok.out
  replace b0 := hid (Below.tr b0.out b1)
  replace k0 := hid (k0.out.below b1)
  replace k1 := hid (k1.out.below b1)
  clear b1 p0 p1 hP0 he1
  have p0 := k0.out.cell 0
  have p1 := k0.out.cell 1
  simp at p0 p1
  go_wp2_with fail
  refine (copyPool_any w.heap.size pa n c B ta tn tc l w1 b0.out.size (hPK.out.below b0.out) hok.out).mono ?_
  rintro e w3 ⟨⟨g, ta', tc', L, rfl, hg, hO, hM, hL, hr⟩, b3⟩
  have hPS := hid (pst_copy hg hO hM hr)
  replace hL := hid hL
  replace b3 := hid b3
  clear p0 p1 hg hO hM hr
  go_upto_region 9 with fail
  have hz7 : Hid ((w3.alloc (.cells #[.slice (some ⟨g, 0, none⟩) n n, .slice ta' tn tc'] 27)).heap.size = w3.heap.size + 1) := hid (by simp)
  have hB7 := hid (below_alloc w3 (.cells #[.slice (some ⟨g, 0, none⟩) n n, .slice ta' tn tc'] 27))
  generalize w3.alloc (.cells #[.slice (some ⟨g, 0, none⟩) n n, .slice ta' tn tc'] 27) = w7 at *
  obtain ⟨cs, hmk, hA⟩ := make_ans q h60.out w7
  replace hA := hid hA
  go_wp2_with fail
  have hI : Hid (RunI w1.heap.size (fun b => ((w.heap.size ≤ b ∧ b < w1.heap.size) ∨ b = w3.heap.size) ∨ b = w7.heap.size) w1 (w7.alloc (.cells cs 34)) w3.heap.size w7.heap.size n q B l (who.zip ql) ta' tn tc' 0 g B L (fun _ => AnsV.zero)) := hid (by
    have bA := below_alloc w7 (.cells cs 34)
    have z7 := hz7.out
    have l3 := b3.out.size
    refine ⟨(b3.out.trans (hB7.out.mono l3)).trans (bA.mono (by omega)), hPS.out.clear bA (fun b y => y.elim .inl (fun y => .inr ⟨by omega, by rw [szB]; omega⟩)) (.inl (.inr rfl)), hA.out, fun _ _ => rfl, by rw [hL.out]; exact hok.out, ?_, fun j i a t x h1 => by omega, .inr rfl, by omega, by omega⟩
    rw [hL.out]
    exact .nil)
  have hn37 : Hid (w3.heap.size ≠ w7.heap.size) := hid (by have := hz7.out; omega)
  clear hPS hA hL hmk
  generalize w7.alloc (.cells cs 34) = w8 at *
  go_loopw [37] (fun u wr => ∃ (k g : Nat) (D : Nat → Blk) (L : List TenM) (v : Nat → AnsV), k ≤ q ∧ u = .int .i64 k ∧ RunI w1.heap.size (fun b => ((w.heap.size ≤ b ∧ b < w1.heap.size) ∨ b = w3.heap.size) ∨ b = w7.heap.size) w1 wr w3.heap.size w7.heap.size n q B l (who.zip ql) ta' tn tc' k g D L v) (fun u _ => q - (Go.RowKit.intOf u).toNat)
  case atStart => exact ⟨0, g, B, L, _, Nat.zero_le _, rfl, hI.out⟩
  case round =>
    clear hI
    obtain ⟨k, g, D, L, v, hk, rfl, hI⟩ := hrel
    by_cases hlt : k < q
    · have hbw : Hid (Below w.heap.size w wr) := hid (b0.out.trans (hI.bel.mono b0.out.size))
      have hx := hid (zip_at hwho.out hq.out hlt)
      obtain ⟨qb, qo, rfl, hqb, hqc⟩ := (hq.out.below hbw.out).2 (by omega)
      obtain ⟨wb, wo, rfl, hwb, _, hwc⟩ := (hwho.out).2.2 (by omega)
      obtain ⟨ba, bn, bc, hAsk⟩ := hqc k hlt
      have c0 := hAsk.c0
      have c1 := hAsk.c1
      have c2 := hAsk.c2
      have c3 := hAsk.c3
      have c4 := hAsk.c4
      have c5 := hAsk.c5
      have c6 := hAsk.c6
      have u0 := (hbw.out.cell (p := ⟨wb, wo + k, none⟩) hwb).trans (hwc k hlt)
      have hao := hAsk.ok
      have hNb := hid hAsk.bytes
      have hib := hid (hwho.out.bd (hwho.out.getD hlt))
      clear hAsk hqc hwc
      generalize ql.getD k AskE.zero = a at *
      generalize who.getD k 0 = i at *
      have b5 := hid (below_alloc wr (.cells #[.int .i64 a.kind, .string a.set, .string a.file, .string a.to, .int .i64 a.pos, .int .i64 a.num, .slice ba bn bc] 30))
      have k5 : Hid (CellsAt _ wr.heap.size #[.int .i64 a.kind, .string a.set, .string a.file, .string a.to, .int .i64 a.pos, .int .i64 a.num, .slice ba bn bc] 30) := hid (cellsAt_alloc wr _ _)
      have g5 : ∀ o, (wr.alloc o).cell? ⟨wb, wo + k, none⟩ = wr.cell? ⟨wb, wo + k, none⟩ := fun o => World.cell?_alloc_past _ _ _ (Nat.lt_of_lt_of_le hwb hbw.out.size)
      have hk0 : (0 : Int) ≤ (k : Int) := by omega
      have hkI : (k : Int) < (q : Int) := by omega
      replace hI := hid hI
      have hw64 : Hid (wrap64 ((k : Int) + 1) = (k : Int) + 1) := hid (by have := h60.out; unfold wrap64; omega)
      replace hlt := hid hlt
      replace hqb := hid hqb
      replace hwb := hid hwb
      go_upto_region 13 with fail
      have hI5 := hid (hI.out.below b5.out)
      have hN5 := hid (hNb.out.below b5.out)
      clear c0 c1 c2 c3 c4 c5 c6
      rw [← g5 (.cells #[.int .i64 a.kind, .string a.set, .string a.file, .string a.to, .int .i64 a.pos, .int .i64 a.num, .slice ba bn bc] 30)] at u0
      have n5 : Hid (wr.heap.size < (wr.alloc (.cells #[.int .i64 a.kind, .string a.set, .string a.file, .string a.to, .int .i64 a.pos, .int .i64 a.num, .slice ba bn bc] 30)).heap.size) := hid (by rw [szB]; omega)
      clear g5 hNb
      generalize wr.alloc (.cells #[.int .i64 a.kind, .string a.set, .string a.file, .string a.to, .int .i64 a.pos, .int .i64 a.num, .slice ba bn bc] 30) = w5 at *
      have o0 := hI5.out.st.box.cell 0
      have o1 := hI5.out.st.box.cell 1
      simp only [List.getElem?_toArray, List.getElem?_cons_zero, List.getElem?_cons_succ] at o0 o1
      have lo := hid hI5.out.st.box.lt
      have Lw5 : Hid (wb < w5.heap.size) := hid (Nat.lt_of_lt_of_le hwb.out (Nat.le_trans hbw.out.size b5.out.size))
      go_region_held3 (fun w' => w'.cell? ⟨w3.heap.size, 0, none⟩ = some (.slice (some ⟨g, 0, none⟩) n n) ∧ w'.cell? ⟨w3.heap.size, 1, none⟩ = some (.slice ta' tn tc') ∧ w'.cell? ⟨wb, wo + k, none⟩ = some (.int .i64 i)) (first | go_keep | assumption) (first | (go_at_call 21; refine Calls.mono (pthere_any (some ⟨g, 0, none⟩) n n ta' tn tc' i _) ?_; rintro e w6 ⟨⟨bb, rfl, hbb⟩, b6⟩; replace b6 : Below w5.heap.size w5 w6 := (below_drew _ _).trans b6; have s0 := (b6.cell (p := ⟨w3.heap.size, 0, none⟩) lo.out).trans o0; have s1 := (b6.cell (p := ⟨w3.heap.size, 1, none⟩) lo.out).trans o1; have s2 := (b6.cell (p := ⟨wb, wo + k, none⟩) Lw5.out).trans u0; replace b6 := hid b6; replace hbb := hid hbb))
      have hI6 := hid (hI5.out.below b6.out)
      have hN6 := hid (hN5.out.below b6.out)
      have kA6 := hid (k5.out.below b6.out)
      have n6 := hid (Nat.lt_of_lt_of_le n5.out b6.out.size)
      clear u0 o0 o1 s0 s1 hI5 hN5 k5 n5 lo
      have u0 := s2
      clear s2
      obtain ⟨v0, v1, v2, v3⟩ := hI6.out.ans.cells hlt.out
      have f0 := hI6.out.ans.free (k * 4)
      cases bb
      case false =>
        have hno : Hid (¬ (0 ≤ i ∧ i < (tn : Int))) := hid (by simpa using hbb.out)
        clear hbb v1 v2 v3
        go_wp2_with fail
        go_roundw
        case rel => exact ⟨k + 1, g, D, L, _, hlt.out, by rw [hw64.out]; push_cast; rfl, hI6.out.miss hlt.out hx.out hno.out⟩
        case measure => have := hlt.out; rw [hw64.out]; simp [Go.RowKit.intOf]; omega
      have hyes : 0 ≤ i ∧ i < (tn : Int) := by simpa using hbb.out
      obtain ⟨j, rfl⟩ : ∃ j : Nat, i = (j : Int) := ⟨i.toNat, by omega⟩
      obtain ⟨tb, rfl⟩ := row_tb hI6.out.st.mine (by omega)
      obtain ⟨m, hm⟩ : ∃ m, L[j]? = some m := by
        have hlen := hI6.out.st.mine.len
        exact ⟨_, List.getElem?_eq_getElem (by omega)⟩
      replace hm := hid hm
      have hj0 : (0 : Int) ≤ (j : Int) := hyes.1
      have hjI : (j : Int) < (tn : Int) := hyes.2
      clear hyes hbb v0 v1 v2 v3 f0
      have o1 := hI6.out.st.box.cell 1
      have a0 := kA6.out.cell 0
      have a1 := kA6.out.cell 1
      have a2 := kA6.out.cell 2
      have a3 := kA6.out.cell 3
      have a4 := kA6.out.cell 4
      have a5 := kA6.out.cell 5
      have a6 := kA6.out.cell 6
      simp only [List.getElem?_toArray, List.getElem?_cons_zero, List.getElem?_cons_succ] at o1 a0 a1 a2 a3 a4 a5 a6
      have HP6 := hid (hI6.out.st.below (below_drew _ _))
      have HN6 := hid (hN6.out.below (below_drew _ _))
      have hok6 := hid hI6.out.ok
      have hRge := hid hI6.out.xrb.2.2
      have hobr : Hid (w3.heap.size < wr.heap.size) := hid hI.out.st.box.lt
      have HnR : Hid (¬ PM w3.heap.size tb tn tc' L w7.heap.size) := hid (fun f => by
        rcases f with f | f
        · exact hI6.out.xrb.2.1 f
        · exact hI6.out.st.mine.rx _ f hI6.out.xrb.1)
      have HnA : Hid (¬ PM w3.heap.size tb tn tc' L wr.heap.size) := hid (fun f => by
        rcases f with f | f
        · have := hobr.out; omega
        · have := (hI.out.st.mine.ge f).2; omega)
      have Lw : Hid (wb < w1.heap.size) := hid (Nat.lt_of_lt_of_le hwb.out b0.out.size)
      have nr3 := hn37.out
      have nr3' := nr3.symm
      have nrA : wr.heap.size ≠ w7.heap.size := by have := hI.out.ans.lt; omega
      have nrA' := nrA.symm
      have nrW : wb ≠ w7.heap.size := by have := Lw.out; have := hRge.out; omega
      have nrW' := nrW.symm
      go_upto_region 15 with fail
      go_region_held3 (fun w' => w'.cell? ⟨w3.heap.size, 1, none⟩ = some (.slice (some ⟨tb, 0, none⟩) tn tc') ∧ w'.cell? ⟨wb, wo + k, none⟩ = some (.int .i64 (j : Int)) ∧ w'.cell? ⟨wr.heap.size, 0, none⟩ = some (.int .i64 a.kind) ∧ w'.cell? ⟨wr.heap.size, 1, none⟩ = some (.string a.set) ∧ w'.cell? ⟨wr.heap.size, 2, none⟩ = some (.string a.file) ∧ w'.cell? ⟨wr.heap.size, 3, none⟩ = some (.string a.to) ∧ w'.cell? ⟨wr.heap.size, 4, none⟩ = some (.int .i64 a.pos) ∧ w'.cell? ⟨wr.heap.size, 5, none⟩ = some (.int .i64 a.num) ∧ w'.cell? ⟨wr.heap.size, 6, none⟩ = some (.slice ba bn bc)) (first | go_keep | assumption) (first | (go_at_call 23; with_reducible refine Calls.mono (poolDo_any w1.heap.size (fun b => ((w.heap.size ≤ b ∧ b < w1.heap.size) ∨ b = w3.heap.size) ∨ b = w7.heap.size) w3.heap.size g n D tb tn tc' L j m a ba bn bc (w6.drew) HP6.out hm.out hok6.out hao HN6.out) ?_; rintro e w9 hret; unfold RetPDo at hret; obtain ⟨e1, N, ya, yn, yc, y, ln, lc, g', D', L', rfl, bH, on, hP8, hc, hrd⟩ := hret; replace bH : Below w1.heap.size w6 w9 := (below_drew _ _).trans bH; replace on : Only (PM w3.heap.size tb tn tc' L) w6 w9 := (Only.of_below (below_drew _ _)).trans on; have o1 := hP8.box.cell 1; have kA8 := on.cells kA6.out HnA.out; have s0 := kA8.cell 0; have s1 := kA8.cell 1; have s2 := kA8.cell 2; have s3 := kA8.cell 3; have s4 := kA8.cell 4; have s5 := kA8.cell 5; have s6 := kA8.cell 6; simp only [List.getElem?_toArray, List.getElem?_cons_zero, List.getElem?_cons_succ] at o1 s0 s1 s2 s3 s4 s5 s6; have u9 := (bH.cell (p := ⟨wb, wo + k, none⟩) Lw.out).trans u0; have hans := hI6.out.ans.only on HnR.out; obtain ⟨v0, v1, v2, v3⟩ := hans.cells hlt.out; have f0 := hans.free (k * 4); have f1 := hans.free (k * 4 + 1); have f2 := hans.free (k * 4 + 2); have f3 := hans.free (k * 4 + 3); clear hans kA8; replace bH := hid bH; replace on := hid on; replace hP8 := hid hP8; replace hc := hid hc; replace hrd := hid hrd))
      have hfin := hid (hI6.out.step (ya := ya) (yn := yn) (yc := yc) hlt.out hx.out hm.out hN6.out.bytes bH.out on.out hP8.out hc.out hrd.out)
      clear o1 a0 a1 a2 a3 a4 a5 a6 s0 s1 s2 s3 s4 s5 s6 v0 v1 v2 v3 f0 f1 f2 f3
      go_wp2_with fail
      go_roundw
      case rel => exact ⟨k + 1, g', D', L', _, hlt.out, by rw [hw64.out]; push_cast; rfl, hfin.out⟩
      case measure => have := hlt.out; rw [hw64.out]; simp [Go.RowKit.intOf]; omega
    · obtain rfl : k = q := by omega
      have k1r := hid (k1.out.below hI.bel)
      have r0 := k1r.out.cell 0
      have r1 := k1r.out.cell 1
      have z0 := k1r.out.frozen 0
      have z1 := k1r.out.frozen 1
      have o0 := hI.st.box.cell 0
      have o1 := hI.st.box.cell 1
      simp only [List.getElem?_toArray, List.getElem?_cons_zero, List.getElem?_cons_succ] at r0 r1 o0 o1
      have l1 : w.heap.size + 1 < w1.heap.size := k1.out.lt
      have hge := hI.xrb.2.2
      have n1 : w.heap.size + 1 ≠ w3.heap.size := by have := hI.st.hob; omega
      have n1' := n1.symm
      have hfin : RetRun (.returned (.tuple #[.agg #[.slice (some ⟨g, 0, none⟩) n n, .slice ta' tn tc'], .slice (some ⟨w7.heap.size, 0, none⟩) k k, .int .i64 0])) (put2p wr (w.heap.size + 1) (.slice (some ⟨g, 0, none⟩) n n) (.slice ta' tn tc')) n B tn l k (who.zip ql) ∧ Below w.heap.size w (put2p wr (w.heap.size + 1) (.slice (some ⟨g, 0, none⟩) n n) (.slice ta' tn tc')) := by
        have kk := kept_put2p wr (w.heap.size + 1) (.slice (some ⟨g, 0, none⟩) n n) (.slice ta' tn tc')
        have hzl : (who.zip ql).take k = who.zip ql := List.take_of_length_le (by rw [List.length_zip, hwho.out.1, hq.out.1]; omega)
        have hrun := hI.runs
        rw [hzl] at hrun
        refine ⟨⟨g, ta', tc', w7.heap.size, D, L.map TenM.e, v, rfl, (hI.st.kept kk (.inl (.inl ⟨by omega, l1⟩)) n1).pool, hI.ans.only (Only.of_kept (M := fun b => b = w.heap.size + 1) kk rfl) (by omega), hI.ok, hrun, fun j i a t x h1 h2 h3 h4 h5 h6 => ?_⟩, (b0.out.trans (hI.bel.mono b0.out.size)).trans (kk.below (by omega))⟩
        exact (hI.last j i a t x h1 h2 h3 h4 h5 h6).map (fun l hl => (hl.kept (g := w.heap.size + 1) (fun b hb => by omega) kk).weaken (fun b _ _ => Nat.zero_le _))
      replace hfin := hid hfin
      replace hI := hid hI
      replace hge := hid hge
      replace l1 := hid l1
      clear hn37
      go_wp2_with fail
      refine bodyPost_ret (v := .tuple #[.agg #[.slice (some ⟨g, 0, none⟩) n n, .slice ta' tn tc'], .slice (some ⟨w7.heap.size, 0, none⟩) k k, .int .i64 0]) (by rw [results_cell_tmps rfl]; go_simp) rfl ?_
      exact hfin.out
end Go.Proofs.YtnmcgmpmcliinaaGreat

namespace Go.Proofs.YtnmcgmpmcliinaaGreat
open Go.ChangeShapes Go.WideShapes Go.RowKit Go.Deep
section
variable {H : Type} {enc : TypeId × Value → H} {W : World}
theorem addr_none {W : World} {a : Addr} {v : Value} (h : W.cell? a = some v) : a = ⟨a.block, a.off, none⟩ := by
  obtain ⟨b, off, spot⟩ := a
  have hspot : spot = none := World.cell?_spot h
  subst hspot
  rfl
theorem add_none (b off i : Nat) : (⟨b, off, none⟩ : Addr).add i = ⟨b, off + i, none⟩ := by unfold Addr.add; split <;> simp_all
theorem add_zero' (a : Addr) : a.add 0 = a := by unfold Addr.add; simp
theorem nums_open {t e : TypeId} {k : IntKind} {m : Nat} {v : Value} {y : DataW H × List MemPlace} (ht : Tryz.prog.underlying t = some (.slice e)) (he : Tryz.prog.underlying e = some (.int k)) (hc : Tryz.prog.cellsOf e = 1)
    (h : DataW.trod enc Tryz.prog W 0 (fun _ => true) true m t [v] = some y) : ∃ a len cap l, v = .slice a len cap ∧ len ≤ cap ∧ cap ≤ maxLen ∧ NumsAt (fun _ => True) k W a len l := by
  rcases open_ints ht he hc h with ⟨hcs, _⟩ | ⟨x, len, cap, zs, hcs, _, hl, hm, hz, _, hcell, hwz⟩
  · exact ⟨none, 0, 0, [], by simpa using hcs, Nat.le_refl _, Nat.zero_le _, numsAt_nil _ _ _ _⟩
  · simp only [if_true] at hz
    refine ⟨some x, len, cap, zs.take len, by simpa using hcs, hl, hm, by simp; omega, fun y hy => hwz y (List.mem_of_mem_take hy), fun hp => ?_⟩
    have h0 := hcell 0 (by omega)
    rw [add_zero'] at h0
    have hx := addr_none h0
    obtain ⟨b, off, spot⟩ := x
    simp only [Addr.mk.injEq, true_and] at hx
    subst hx
    refine ⟨b, off, rfl, cell_lt h0, trivial, fun i hi => ?_⟩
    have := hcell i (by omega)
    rw [add_none] at this
    rw [this]
    simp [List.getD, hi]
set_option maxRecDepth 100000 in
theorem blk_open {m : Nat} {cs : List Value} {y : DataW H × List MemPlace} (h : DataW.trod enc Tryz.prog W 0 (fun _ => true) true m 93 cs = some y) :
    ∃ (r lv : Int) (ka : Option Addr) (kn kc : Nat) (ba : Option Addr) (bn bc : Nat) (ks bs : List Int), cs = [.int .i64 r, .int .i64 lv, .slice ka kn kc, .slice ba bn bc] ∧
      (-9223372036854775808 ≤ r ∧ r ≤ 9223372036854775807) ∧ (-9223372036854775808 ≤ lv ∧ lv ≤ 9223372036854775807) ∧ (kn ≤ kc ∧ bn ≤ bc) ∧ NumsAt (fun _ => True) .i64 W ka kn ks ∧ NumsAt (fun _ => True) .u8 W ba bn bs := by
  obtain ⟨y0, y1, y2, y3, n, _, hl, h0, h1, h2, h3⟩ := Go.Joins.trod_struct4 Tryz.underlying93 h
  have hl4 : cs.length = 4 := hl.trans (by kernel_rfl)
  match cs, hl4 with
  | [c0, c1, c2, c3], _ =>
    have e1 : Tryz.prog.cellsOf 3 = 1 := by kernel_rfl
    have e2 : Tryz.prog.cellsOf 77 = 1 := by kernel_rfl
    have e3 : Tryz.prog.cellsOf 28 = 1 := by kernel_rfl
    simp [e1, e2, e3] at h0 h1 h2 h3
    obtain ⟨r, hr, _, wr⟩ := DataW.trod_int Tryz.underlying3 h0
    obtain ⟨lv, hlv, _, wl⟩ := DataW.trod_int Tryz.underlying3 h1
    obtain ⟨ka, kn, kc, ks, rfl, hk, _, hK⟩ := nums_open Tryz.underlying77 Tryz.underlying3 (by kernel_rfl) h2
    obtain ⟨ba, bn, bc, bs, rfl, hb, _, hB⟩ := nums_open Tryz.underlying28 Tryz.underlying5 (by kernel_rfl) h3
    simp at hr hlv
    subst hr hlv
    have := bounds_i64 wr
    have := bounds_i64 wl
    exact ⟨r, lv, ka, kn, kc, ba, bn, bc, ks, bs, rfl, by omega, by omega, ⟨hk, hb⟩, hK, hB⟩
end
end Go.Proofs.YtnmcgmpmcliinaaGreat

namespace Go.Proofs.YtnmcgmpmcliinaaGreat
open Go.ChangeShapes Go.WideShapes Go.RowKit Go.Deep
section
variable {H : Type} {enc : TypeId × Value → H} {W : World}
end
end Go.Proofs.YtnmcgmpmcliinaaGreat
