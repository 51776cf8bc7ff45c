/-
  ImgE, FileF, PutF in one text. Nothing here is trusted.
-/
import Derived.Test.YtihkljfcplfldaaGreatPart22
import Derived.Test.YtihkljfcplfldaaGreatPart05
import Derived.Test.YtihkljfcplfldaaGreatPart17
import Derived.Test.YtihkljfcplfldaaGreatPart10
set_option linter.unusedVariables false
namespace Go.Proofs.YtihkljfcplfldaaGreat
open Go.RowKit

theorem flat_bound {α : Type} {f : α → List Int} {c : Nat} : ∀ {l : List α}, (∀ x ∈ l, (f x).length ≤ c) → (l.flatMap f).length ≤ l.length * c
  | [], _ => by simp
  | x :: l, h => by
    have h1 := h x (by simp)
    have h2 := flat_bound (l := l) (fun y hy => h y (by simp [hy]))
    simp only [List.flatMap_cons, List.length_append, List.length_cons, Nat.add_mul, Nat.one_mul]
    omega
theorem name_size {s : ByteArray} (h : IsName s) : s.size ≤ 8 := by
  have := h.2.1
  rw [Array.length_toList] at this
  exact this
theorem entB_le {e : Ent} (h : IsName e.name) : (entB e).length ≤ 14 := by
  have := name_size h
  unfold entB
  rw [List.length_append, nameB_len, numsB_len]
  simp only [List.length_cons, List.length_nil]
  omega
theorem filesB_le {l : List Ent} (h6 : l.length ≤ 6) (h : ∀ e ∈ l, IsName e.name) : (filesB l).length ≤ 86 := by
  have := flat_bound (f := entB) (c := 14) (l := l) (fun e he => entB_le (h e he))
  rw [filesB_len]
  omega
theorem setB_le {x : SetE} (h : Shape x) : (setB x).length ≤ 386 := by
  have h1 := name_size h.name
  have h2 := filesB_le h.few h.names
  have h3 := flat_bound (f := snapB) (c := 96) (l := x.snaps) (fun s hs => by
    rw [snapB_len]
    have h1 := name_size (h.namesS s hs)
    have h2 := filesB_le (h.filesS s hs).1 (h.filesS s hs).2.1
    omega)
  have h4 := h.fewS
  unfold setB
  rw [List.length_append, List.length_append, List.length_append, nameB_len, numB_len]
  omega
theorem tenB_le {n : Nat} {B : Nat → Blk} {t : TenE} (h : TenOk n B t) : (tenB t).length ≤ 1164 := by
  have h1 := flat_bound (f := setB) (c := 386) (l := t.sets) (fun x hx => setB_le (h.shapes x hx))
  have h2 := h.few
  unfold tenB
  rw [List.length_append, numsB_len]
  simp only [List.length_cons, List.length_nil]
  omega
theorem blkB_len (b : Blk) : (blkB b).length = 6 + 2 * b.kids.length + (2 + b.bytes.length) := by
  unfold blkB; rw [List.length_append, List.length_append, numsB_len, numsB_len, bytesB_len]; rfl
theorem blkB_le {n : Nat} {B : Nat → Blk} {b : Blk} (h : Form n B b) : (blkB b).length ≤ 16 := by
  rw [blkB_len]
  rcases h with ⟨_, _, h1, h2⟩ | ⟨_, ⟨_, h1, h2⟩ | ⟨_, h1, h2, _⟩⟩
  · rw [h1, h2]; decide
  · rw [h1, h2]; decide
  · rw [h1, h2]; decide
theorem blocksB_le {n : Nat} {B : Nat → Blk} (h : Right n B) : (blocksB n B).length ≤ 6400 := by
  have h1 := flat_bound (f := fun i => blkB (B i)) (c := 16) (l := List.range n) (fun i hi => blkB_le (h.one i (List.mem_range.1 hi)))
  have := h.small
  rw [List.length_range] at h1
  unfold blocksB
  omega
theorem poolB_le {n : Nat} {B : Nat → Blk} {l : List TenE} (h : PoolOk n B l) : (poolB n B l).length ≤ 9896 := by
  have h1 := blocksB_le h.right
  have h2 := flat_bound (f := tenB) (c := 1164) (l := l) (fun t ht => tenB_le (h.tens t ht))
  have h3 := h.few
  unfold poolB
  rw [List.length_append, List.length_append, List.length_append, numB_len, numB_len]
  omega
theorem form_few {n : Nat} {B : Nat → Blk} {b : Blk} (h : Form n B b) : b.kids.length ≤ 4 ∧ b.bytes.length ≤ 4 := by
  rcases h with ⟨_, _, h1, h2⟩ | ⟨_, ⟨_, h1, h2⟩ | ⟨_, h1, h2, _⟩⟩
  · rw [h1, h2]; decide
  · rw [h1, h2]; decide
  · rw [h1, h2]; decide

set_option maxHeartbeats 2000000 in
set_option maxRecDepth 100000 in
theorem wpool_any (W : World) (wb : Nat) (v : Value) (Q : Nat → Prop) (a : Option Addr) (n c : Nat) (B : Nat → Blk) (ta : Option Addr) (tn tc : Nat) (l : List TenE) (w : World) (hb : Below W.heap.size W w) (hW : Wr W.heap.size w wb v [])
    (hP : PoolAt Q W a n B ta tn l) (hok : PoolOk n B l) :
    Calls Tryz.prog 65 #[.pointer (some ⟨wb, 0, none⟩), .agg #[.slice a n c, .slice ta tn tc]] w fun e w' => RetWr W.heap.size w wb v [] (poolB n B l) e w' := by
  have hn := hok.right.small
  have htl := hid hP.tens.1
  have htn : tn ≤ 3 := by rw [← hP.tens.1]; exact hok.few
  have hbl := hid (blocksB_le hok.right)
  have htt : Hid ((l.flatMap tenB).length ≤ 3492) := hid (by
    have h2 := flat_bound (f := tenB) (c := 1164) (l := l) (fun t ht => tenB_le (hok.tens t ht))
    have h3 := hok.few
    omega)
  have b0 := hid (below_alloc w (.cells #[.slice a n c, .slice ta tn tc] 27))
  have s0 := hid (ws_start hb hW)
  have x0 := hid (s0.out.box #[.slice a n c, .slice ta tn tc] 27)
  replace s0 := hid (s0.out.below b0.out)
  replace hP := hid hP
  replace hok := hid hok
  clear hb hW
  go_enter Tryz.func65, Tryz.ntmps65
  go_upto_region 1 with fail
  generalize w.alloc (.cells #[.slice a n c, .slice ta tn tc] 27) = w0 at *
  clear b0
  have q0 := x0.out.cells.cell 0
  simp at q0
  have bA := hid (below_alloc w0 (.cells #[.int .i64 (n : Int)] 3))
  have hNA := hid (nums_one w0 (n : Int) (by omega) (fun b => ¬ WM wb v b) (s0.out.wr.fresh (Nat.le_refl _)))
  replace s0 := hid (s0.out.below bA.out)
  replace x0 := hid (x0.out.below bA.out)
  go_wp2_with fail
  clear q0 bA
  generalize w0.alloc (.cells #[.int .i64 (n : Int)] 3) = wA at *
  refine (numbers_any W.heap.size wb v [] _ 1 1 _ wA s0.out.wr hNA.out (by simp)).mono ?_
  rintro e w1 ⟨rfl, v1, hW1, hO1⟩
  rw [numsB_one, List.nil_append] at hW1
  have s1 := hid (s0.out.step hW1 hO1)
  have x1 := hid (x0.out.step hO1)
  clear hW1 hO1 s0 x0 hNA
  have q0 := x1.out.cells.cell 0
  simp at q0
  go_wp2_with fail
  clear q0
  go_loopw [19] (fun u wr => ∃ (j : Nat) (v' : Value), j ≤ n ∧ u = .int .i64 j ∧ WS W w wr wb v v' (numB (n : Int) ++ ((List.range n).take j).flatMap fun i => blkB (B i)) ∧ Box1 wr wb v' w.heap.size #[.slice a n c, .slice ta tn tc] 27) (fun u _ => n - (Go.RowKit.intOf u).toNat)
  case atStart => exact ⟨0, v1, Nat.zero_le _, rfl, by simpa using s1.out, x1.out⟩
  case round =>
    clear s1 x1
    obtain ⟨j, v', hj, rfl, hS, hX⟩ := hrel
    by_cases hlt : j < n
    · obtain ⟨eb, off, rfl, hebl, hB⟩ := hP.out.store (by omega)
      obtain ⟨ka, kn, kc, ba, bn, bc, hA⟩ := hB j hlt
      have c0 := (hA.below hS.b).c0
      have c1 := (hA.below hS.b).c1
      have c2 := (hA.below hS.b).c2
      have c3 := (hA.below hS.b).c3
      have hx : (List.range n)[j]? = some j := by simp [hlt]
      have h4 : kn ≤ 4 ∧ bn ≤ 4 := by
        have := form_few (hok.out.right.one j hlt)
        rw [← hA.kids.1, ← hA.bytes.1]; exact this
      have hk := hid hA.kids
      have hy := hid hA.bytes
      have hr := hA.refs
      have hl := hA.level
      have hroom := hid (flat_room (f := fun i => blkB (B i)) hx)
      have hnext := hid (flat_next (f := fun i => blkB (B i)) hx)
      clear hA hB hx
      have hbl' : Hid (((List.range n).flatMap fun i => blkB (B i)).length ≤ 6400) := hbl
      generalize (List.range n).flatMap (fun i => blkB (B i)) = FB at *
      generalize B j = K at *
      have hLl : Hid ((numB (n : Int) ++ ((List.range n).take j).flatMap fun i => blkB (B i)).length = 2 + (((List.range n).take j).flatMap fun i => blkB (B i)).length) := hid (by rw [List.length_append, numB_len])
      have bx := hid (below_alloc wr (.cells #[.int .i64 K.refs, .int .i64 K.level, .slice ka kn kc, .slice ba bn bc] 124))
      have x0 := hid (hS.box #[.int .i64 K.refs, .int .i64 K.level, .slice ka kn kc, .slice ba bn bc] 124)
      have s2 := hid (hS.below bx.out)
      have xp := hid (hX.below bx.out)
      clear hS hX
      go_upto_region 5 with fail
      clear c0 c1 c2 c3 bx
      generalize wr.alloc (.cells #[.int .i64 K.refs, .int .i64 K.level, .slice ka kn kc, .slice ba bn bc] 124) = w5 at *
      have q0 := x0.out.cells.cell 0
      have q1 := x0.out.cells.cell 1
      have q2 := x0.out.cells.cell 2
      have q3 := x0.out.cells.cell 3
      simp at q0 q1 q2 q3
      go_wp2_with fail
      refine (wblock_any W wb v' _ K ka kn kc ba bn bc (fun _ => True) w5 s2.out.b s2.out.wr hk.out hy.out hr hl h4 (by have := hroom.out; have := hLl.out; have := hbl'.out; omega)).mono ?_
      rintro e w7 ⟨rfl, v7, hW7, hO7⟩
      have s7 : Hid (WS W w w7 wb v v7 (numB (n : Int) ++ ((List.range n).take (j + 1)).flatMap fun i => blkB (B i))) := hid (by
        have := s2.out.step hW7 hO7
        rw [hnext.out, ← List.append_assoc]
        exact this)
      have x7 := hid (xp.out.step hO7)
      clear hW7 hO7 s2 x0 xp q0 q1 q2 q3
      go_wp2_with fail
      go_roundw
      case rel => exact ⟨j + 1, v7, by omega, by go_num, s7.out, x7.out⟩
      case measure => simp [Go.RowKit.intOf]; omega
    · obtain rfl : j = n := by omega
      have s2 : Hid (WS W w wr wb v v' (numB (j : Int) ++ blocksB j B)) := hid (by
        rw [List.take_of_length_le (by rw [List.length_range]; exact Nat.le_refl _)] at hS
        exact hS)
      have x2 := hid hX
      clear hS hX
      have hl2 : Hid ((numB (j : Int) ++ blocksB j B).length ≤ 6402) := hid (by rw [List.length_append, numB_len]; have := hbl.out; omega)
      have q1 := x2.out.cells.cell 1
      simp at q1
      have bA := hid (below_alloc wr (.cells #[.int .i64 (tn : Int)] 3))
      have hNA := hid (nums_one wr (tn : Int) (by omega) (fun b => ¬ WM wb v' b) (s2.out.wr.fresh (Nat.le_refl _)))
      replace s2 := hid (s2.out.below bA.out)
      replace x2 := hid (x2.out.below bA.out)
      go_wp2_with fail
      clear q1 bA
      generalize wr.alloc (.cells #[.int .i64 (tn : Int)] 3) = wA at *
      refine (numbers_any W.heap.size wb v' _ _ 1 1 _ wA s2.out.wr hNA.out (by have := hl2.out; omega)).mono ?_
      rintro e w3 ⟨rfl, v3, hW3, hO3⟩
      rw [numsB_one] at hW3
      have s3 := hid (s2.out.step hW3 hO3)
      have x3 := hid (x2.out.step hO3)
      have hl3 : Hid ((numB (j : Int) ++ blocksB j B ++ numB (tn : Int)).length ≤ 6404) := hid (by rw [List.length_append, numB_len]; have := hl2.out; omega)
      clear hW3 hO3 s2 x2 hNA
      have q1 := x3.out.cells.cell 1
      simp at q1
      generalize hHead : numB (j : Int) ++ blocksB j B ++ numB (tn : Int) = Hd at *
      replace hHead := hid hHead
      go_wp2_with fail
      clear q1 x3
      go_loopw [36] (fun u wr => ∃ (i : Nat) (v' : Value), i ≤ tn ∧ u = .int .i64 i ∧ WS W w wr wb v v' (Hd ++ (l.take i).flatMap tenB)) (fun u _ => tn - (Go.RowKit.intOf u).toNat)
      case atStart => exact ⟨0, v3, Nat.zero_le _, rfl, by simpa using s3.out⟩
      case round =>
        clear s3
        obtain ⟨i, v', hi, rfl, hS⟩ := hrel
        by_cases hilt : i < tn
        · have hil : i < l.length := by rw [htl.out]; exact hilt
          obtain ⟨eb, off, rfl⟩ : ∃ b off, ta = some ⟨b, off, none⟩ := by
            obtain ⟨b, off, e, _⟩ := hP.out.tens.2 (by omega)
            exact ⟨b, off, e⟩
          have hx : l[i]? = some (l.getD i TenE.zero) := by rw [List.getElem?_eq_getElem hil]; simp [List.getD, hil]
          obtain ⟨sa, sn, sc, hA⟩ := hP.out.tens.ten hilt
          have c0 := (hA.below hS.b).c0
          have c1 := (hA.below hS.b).c1
          have c2 := (hA.below hS.b).c2
          have hTa := hid hA.ok
          have hTo := hid (hok.out.tens _ (List.mem_of_getElem? hx))
          have hroom := hid (flat_room (f := tenB) hx)
          have hnext := hid (flat_next (f := tenB) hx)
          clear hA hil hx
          generalize l.getD i TenE.zero = t at *
          have hLl : Hid ((Hd ++ (l.take i).flatMap tenB).length = Hd.length + ((l.take i).flatMap tenB).length) := hid List.length_append
          have ba := hid (below_alloc wr (.cells #[.int .i64 t.key, .int .i64 t.quota, .slice sa sn sc] 42))
          have x0 := hid (hS.box #[.int .i64 t.key, .int .i64 t.quota, .slice sa sn sc] 42)
          have s2 := hid (hS.below ba.out)
          clear hS
          go_upto_region 11 with fail
          clear c0 c1 c2 ba
          generalize wr.alloc (.cells #[.int .i64 t.key, .int .i64 t.quota, .slice sa sn sc] 42) = w5 at *
          have q0 := x0.out.cells.cell 0
          have q1 := x0.out.cells.cell 1
          have q2 := x0.out.cells.cell 2
          simp at q0 q1 q2
          go_wp2_with fail
          refine (wtenant_any W wb v' _ Q t sa sn sc w5 s2.out.b s2.out.wr hTa.out hTo.out.few hTo.out.shapes (by have := hroom.out; have := hLl.out; have := hl3.out; have := htt.out; omega)).mono ?_
          rintro e w7 ⟨rfl, v7, hW7, hO7⟩
          have s7 : Hid (WS W w w7 wb v v7 (Hd ++ (l.take (i + 1)).flatMap tenB)) := hid (by
            have := s2.out.step hW7 hO7
            rw [hnext.out, ← List.append_assoc Hd]
            exact this)
          clear hW7 hO7 s2 x0 q0 q1 q2
          go_wp2_with fail
          go_roundw
          case rel => exact ⟨i + 1, v7, by omega, by go_num, s7.out⟩
          case measure => simp [Go.RowKit.intOf]; omega
        · obtain rfl : i = tn := by omega
          have hR : Hid (RetWr W.heap.size w wb v [] (poolB j B l) (.returned (.tuple #[])) wr) := hid (WS.ret (v := v') (by
            rw [List.take_of_length_le (by rw [htl.out]; exact Nat.le_refl _), ← hHead.out] at hS
            unfold poolB
            rw [htl.out, List.nil_append]
            exact hS))
          clear hS
          go_wp2_with fail
          go_end0
          exact hR.out

/-- what Write answers -/
def RetW7 (base : Nat) (e : Ending) (w : World) (n : Nat) (B : Nat → Blk) (l : List TenE) : Prop :=
  (∃ e', e = .returned (.tuple #[.slice none 0 0, .int .i64 e']) ∧ e' ≠ 0 ∧ ¬ PoolOk n B l) ∨
  (PoolOk n B l ∧ ∃ (a : Option Addr) (m c : Nat), e = .returned (.tuple #[.slice a m c, .int .i64 0]) ∧ (m ≤ c ∧ c ≤ maxLen) ∧ m ≤ 9896 ∧ NumsAt (fun b => base ≤ b) .u8 w a m (poolB n B l))
end Go.Proofs.YtihkljfcplfldaaGreat

namespace Go.Proofs.YtihkljfcplfldaaGreat
open Go.RowKit

set_option maxHeartbeats 400000 in
theorem cloneRow_any (a : Option Addr) (n c : Nat) (l : List Int) (Q : Nat → Prop) (w : World) (hn : n ≤ 1000) (h : NumsAt Q .u8 w a n l) :
    Calls Tryz.prog 95 #[.slice a n c] w fun e w' =>
      Below w.heap.size w w' ∧ ∃ a' c', e = .returned (.slice a' n c') ∧ n ≤ c' ∧ NumsAt (fun b => w.heap.size ≤ b) .u8 w' a' n l := by
  obtain ⟨i0, hi, hz0, hz1, hz2⟩ := info_parts Tryz.infoByte
  have qn : ∀ (w : World) (a : Option Addr) (n c n' c' : Nat), (binOp .eql 28 (.slice a n c) (.slice none n' c')).run Tryz.prog w = .ok (.bool a.isNone) w := fun w a n c n' c' => Lib.run_eql_slice_nil w _ _ a n c n' c' Tryz.underlying28
  cases a with
  | none =>
    have hn0 : n = 0 := by
      rcases Nat.eq_zero_or_pos n with h0 | h0
      · exact h0
      · obtain ⟨_, _, h1, _⟩ := h.2.2 h0
        cases h1
    subst hn0
    have hl := h.1
    replace h := hid h
    go_enter Tryz.func95, Tryz.ntmps95
    go_wp2_with fail
    go_ret
    exact ⟨Below.refl _ _, _, _, rfl, Nat.le_refl _, by rw [List.eq_nil_of_length_eq_zero hl]; exact numsAt_nil _ _ _ _⟩
  | some x =>
    have hl := h.1
    have hcn : ∀ j u, (l.map (Value.int .u8))[j]? = some u → (w.alloc (.cells #[] 5)).cell? (x.add j) = some u := by
      intro j u hj
      have hjl : j < l.length := by
        rcases Nat.lt_or_ge j l.length with h | h
        · exact h
        · simp [List.getElem?_eq_none h] at hj
      obtain ⟨b, off, he, hb, _, hc⟩ := h.2.2 (by omega)
      obtain rfl : x = ⟨b, off, none⟩ := by simpa using he
      have ea : (⟨b, off, none⟩ : Addr).add j = ⟨b, off + j, none⟩ := by unfold Addr.add; split <;> simp_all
      rw [ea, World.cell?_alloc_past _ _ _ hb, hc j (by omega)]
      simp [hjl] at hj
      simp [List.getD, hjl, hj]
    have A := hid hcn
    have hwf := hid h.2.1
    replace hl := hid hl
    clear hcn h
    go_enter Tryz.func95, Tryz.ntmps95
    go_wp2_with (at_builtin; refine wpList_append_own _ rfl _ _ 28 rfl w.heap.size 5 i0 (.int .u8 0) 1 1 Tryz.underlying28 hi hz0 hz1 hz2 rfl (by decide) _ _ _ rfl (World.ownsRow_made w #[] 0 (Nat.le_refl _) (Nat.zero_le _) (by simp)) x n c (l.map (Value.int .u8)) rfl ?qc1 ?qc2 ?qc3 ?qc4 ?qc5 ?qc6 ?_)
    case qc1 => simp [hl.out]
    case qc2 => exact A.out
    case qc3 => intro u hu; simp at hu; obtain ⟨x, _, rfl⟩ := hu; rfl
    case qc4 => unfold maxLen; omega
    case qc5 => omega
    case qc6 => simp
    intro v' w1 hown hgrow hnil
    have hown' : w1.ownsRow w.heap.size 5 1 v' n (l.map (Value.int .u8)) := by simpa using hown
    have hbel := ((Below.refl _ w).alloc (Nat.le_refl _) _).grown hgrow (by simp) (by intro k hk; simp [Value.ownBlock] at hk; omega)
    clear hown hgrow A hnil
    obtain ⟨a', c', rfl, hnc, hN⟩ := numsAt_own hwf.out hown'
    replace hN := hid hN
    clear hown'
    go_wp2_with fail
    go_ret
    exact ⟨hbel, a', c', rfl, hnc, hN.out⟩

/-- what Over answers -/
def RetOv (base : Nat) (e : Ending) (w : World) (b : List Int) (at' : Int) (more : List Int) : Prop :=
  (∃ e' : Int, e = .returned (.tuple #[.slice none 0 0, .int .i64 e']) ∧ e' ≠ 0 ∧ ¬ (0 ≤ at' ∧ at' + (more.length : Int) ≤ 256)) ∨
  (∃ (x : Option Addr) (ln lc A : Nat), e = .returned (.tuple #[.slice x ln lc, .int .i64 0]) ∧ at' = (A : Int) ∧ A + more.length ≤ 256 ∧ ln ≤ lc ∧ NumsAt (fun q => base ≤ q) .u8 w x ln (overL b A more))

theorem over_row {w : World} {g M A base : Nat} {b more : List Int} (hb : Bytes b) (hm : Bytes more) (hne : more ≠ []) (hM : M = max b.length (A + more.length)) (hg : base ≤ g)
    (h : CellsAt w g (splice (splice ((zeros M).map (Value.int .u8)) 0 (b.map (Value.int .u8))) A (more.map (Value.int .u8))).toArray 5) : NumsAt (fun q => base ≤ q) .u8 w (some ⟨g, 0, none⟩) M (overL b A more) := by
  rw [map_splice, map_splice] at h
  have e : splice (splice (zeros M) 0 b) A more = overL b A more := by unfold overL; rw [if_neg hne, hM]
  rw [e] at h
  have hl : (overL b A more).length = M := by rw [overL_length, if_neg hne, hM]
  have := nums_of_cells (Q := fun q => base ≤ q) hg (overL_bytes (at' := A) hb hm) h
  rwa [hl] at this

set_option maxHeartbeats 4000000 in
set_option maxRecDepth 100000 in
theorem over_any (ba : Option Addr) (bn bc : Nat) (b : List Int) (at' : Int) (ma : Option Addr) (mn mc : Nat) (more : List Int) (w : World) (hbn : bn ≤ 256) (hb : NumsAt (fun _ => True) .u8 w ba bn b) (hm : NumsAt (fun _ => True) .u8 w ma mn more) :
    Calls Tryz.prog 165 #[.slice ba bn bc, .int .i64 at', .slice ma mn mc] w fun e w' => RetOv w.heap.size e w' b at' more ∧ Below w.heap.size w w' := by
  obtain ⟨i0, hi0, hz0, hz1, hz2⟩ := info_parts Tryz.infoByte
  have hml := hm.1
  have hbl := hb.1
  replace hb := hid hb
  replace hm := hid hm
  by_cases ha : 0 ≤ at' ∧ at' ≤ 256
  case neg =>
    go_enter Tryz.func165, Tryz.ntmps165
    go_wp2_with fail
    refine (isSize_no at' w ha).mono ?_
    rintro e w1 ⟨rfl, rfl⟩
    replace ha := hid ha
    go_wp2_with fail
    go_ret2
    exact ⟨.inl ⟨3, rfl, by omega, fun f => ha.out (by omega)⟩, Below.refl _ _⟩
  obtain ⟨A, rfl⟩ : ∃ A : Nat, at' = (A : Int) := ⟨at'.toNat, by omega⟩
  have hA : A ≤ 256 := by omega
  by_cases h2 : mn ≤ 256
  case neg =>
    have h2' : ¬ (0 ≤ (mn : Int) ∧ (mn : Int) ≤ 256) := by omega
    go_enter Tryz.func165, Tryz.ntmps165
    go_wp2_with fail
    refine (isSize_ok A w ha).mono ?_
    rintro e w1 ⟨rfl, rfl⟩
    go_wp2_with fail
    refine (isSize_no mn w1 h2').mono ?_
    rintro e w2 ⟨rfl, rfl⟩
    clear h2'
    go_wp2_with fail
    go_ret2
    exact ⟨.inl ⟨3, rfl, by omega, fun f => h2 (by omega)⟩, Below.refl _ _⟩
  have h2' : 0 ≤ (mn : Int) ∧ (mn : Int) ≤ 256 := by omega
  by_cases h3 : A + mn ≤ 256
  case neg =>
    go_enter Tryz.func165, Tryz.ntmps165
    go_wp2_with fail
    refine (isSize_ok A w ha).mono ?_
    rintro e w1 ⟨rfl, rfl⟩
    go_wp2_with fail
    refine (isSize_ok mn w1 h2').mono ?_
    rintro e w2 ⟨rfl, rfl⟩
    have h3' : (256 : Int) < (A : Int) + (mn : Int) := by omega
    go_wp2_with fail
    go_ret2
    exact ⟨.inl ⟨8, rfl, by omega, fun f => h3 (by omega)⟩, Below.refl _ _⟩
  have h3' : ¬ (256 : Int) < (A : Int) + (mn : Int) := by omega
  by_cases h4 : mn = 0
  · subst h4
    obtain rfl : more = [] := List.eq_nil_of_length_eq_zero hml
    go_enter Tryz.func165, Tryz.ntmps165
    go_wp2_with fail
    refine (isSize_ok A w ha).mono ?_
    rintro e w1 ⟨rfl, rfl⟩
    go_wp2_with fail
    refine (isSize_ok 0 w1 h2').mono ?_
    rintro e w2 ⟨rfl, rfl⟩
    go_wp2_with fail
    refine (cloneRow_any ba bn bc b (fun _ => True) w2 (by omega) hb.out).mono ?_
    rintro e w3 ⟨b3, x, lc, rfl, hlc, hN⟩
    replace hN := hid hN
    go_wp2_with fail
    go_ret2
    exact ⟨.inr ⟨x, bn, lc, A, rfl, rfl, by simpa using hA, hlc, by simpa [overL] using hN.out⟩, b3⟩
  have h4' : ((mn : Int) == 0) = false := by simp [h4]
  have hne : Hid (more ≠ []) := hid fun f => h4 (by rw [← hml, f]; rfl)
  obtain ⟨M, hM⟩ : ∃ M, M = max bn (A + mn) := ⟨_, rfl⟩
  have hMm : Hid (M = max b.length (A + more.length)) := hid (by rw [hbl, hml]; exact hM)
  have hM256 : M ≤ 256 := by omega
  have hMb : bn ≤ M := by omega
  have hMa : A + mn ≤ M := by omega
  have fin : Hid (∀ w', CellsAt w' w.heap.size (splice (splice ((zeros M).map (Value.int .u8)) 0 (b.map (Value.int .u8))) A (more.map (Value.int .u8))).toArray 5 → RetOv w.heap.size (.returned (.tuple #[.slice (some ⟨w.heap.size, 0, none⟩) M M, .int .i64 0])) w' b A more) := hid fun w' h => .inr ⟨_, M, M, A, rfl, rfl, by omega, Nat.le_refl _, over_row hb.out.bytes hm.out.bytes hne.out hMm.out (Nat.le_refl _) h⟩
  have hzl : Hid (((zeros M).map (Value.int .u8)).length = M) := hid (by rw [List.length_map, zeros_length])
  have hbX : Hid ((b.map (Value.int .u8)).length = bn) := hid (by rw [List.length_map, hbl])
  have hmX : Hid ((more.map (Value.int .u8)).length = mn) := hid (by rw [List.length_map, hml])
  have h1b := hid (one_map b)
  have h1m := hid (one_map more)
  have hsb : Hid (∀ w', Below w.heap.size w w' → 0 < bn → ∃ ad, ba = some ad ∧ ∀ j v, (b.map (Value.int .u8))[j]? = some v → w'.cell? (ad.add j) = some v) := hid fun w' hw hp => by
    have := hb.out.below hw
    obtain ⟨q, off, rfl, _⟩ := this.2.2 hp
    exact ⟨_, rfl, src_map this hp⟩
  have hsm : Hid (∀ w', Below w.heap.size w w' → 0 < mn → ∃ ad, ma = some ad ∧ ∀ j v, (more.map (Value.int .u8))[j]? = some v → w'.cell? (ad.add j) = some v) := hid fun w' hw hp => by
    have := hm.out.below hw
    obtain ⟨q, off, rfl, _⟩ := this.2.2 hp
    exact ⟨_, rfl, src_map this hp⟩
  have hmx : (if (bn : Int) < (A : Int) + (mn : Int) then (A : Int) + (mn : Int) else (bn : Int)) = (M : Int) := by split <;> omega
  clear hb hm hml hbl hMm hne hmx
  replace hM := hid hM
  go_enter Tryz.func165, Tryz.ntmps165
  go_wp2_with fail
  refine (isSize_ok A w ha).mono ?_
  rintro e w1 ⟨rfl, rfl⟩
  go_wp2_with fail
  refine (isSize_ok mn w1 h2').mono ?_
  rintro e w2 ⟨rfl, rfl⟩
  clear ha h2'
  by_cases hmax : (bn : Int) < (A : Int) + (mn : Int)
  all_goals (
    go_wp2_with (at_make; refine wpList_make_full _ rfl (.tmp 34) (.tmp 34) 28 rfl w2.heap.size 5 i0 (.int .u8 0) 1 Tryz.underlying28 hi0 hz0 hz1 .i64 .i64 _ _ M rfl rfl (by have := hM.out; omega) (by have := hM.out; omega) (by rw [hz2]; omega) (by unfold maxLen; omega) (Nat.le_refl _) ?_; intro w4 hown hgr; have hc4 := made_zero hown; have b4 : Below w2.heap.size w2 w4 := ⟨hgr.os, hgr.tape, hgr.output, hgr.size, fun k hk => hgr.block k hk (by simp)⟩; clear hown hgr; obtain ⟨w5, hr5, hc5, b5⟩ := copy_run (off := 0) (dLen := M) (dCap := M) (sLen := bn) (sCap := bc) (m := bn) _ _ hc4 hbX.out (show bn = min bn M by omega) (hsb.out w4 b4) (by rw [hzl.out]; omega) h1b.out b4 (Nat.le_refl _); clear hc4 b4; have hl5 : (splice ((zeros M).map (Value.int .u8)) 0 (b.map (Value.int .u8))).length = M := (by rw [length_splice _ _ _ (by rw [hzl.out, hbX.out]; omega), hzl.out]); obtain ⟨w6, hr6, hc6, b6⟩ := copy_run (off := A) (dLen := M - A) (dCap := M - A) (sLen := mn) (sCap := mc) (m := mn) _ _ hc5 hmX.out (show mn = min mn (M - A) by omega) (hsm.out w5 b5) (by rw [hl5]; omega) h1m.out b5 (Nat.le_refl _); replace hc6 := hid (fin.out w6 hc6); replace b6 := hid b6; clear hc5 b5 hl5)
    go_ret2
    exact ⟨hc6.out, b6.out⟩)
end Go.Proofs.YtihkljfcplfldaaGreat

namespace Go.Proofs.YtihkljfcplfldaaGreat
open Go.RowKit

/-- what Put answers, of a store in which nothing is held more often than cc -/
def RetPutO (base : Nat) (e : Ending) (w : World) (n : Nat) (B : Nat → Blk) (root lv i : Int) (bs : List Int) (cc : Int) : Prop :=
  (∃ e' : Int, e = .returned (.tuple #[.agg #[.slice none 0 0], .int .i64 0, .int .i64 e']) ∧ e' ≠ 0 ∧ (Checked n B root lv i → bs = [] ∨ bs.length = 4 → e' = 8 ∧ (n : Int) ≤ usedTo B n + lv)) ∨
  (∃ (l j : Nat) (C : Nat → Blk) (a : Int) (g : Nat), e = .returned (.tuple #[.agg #[.slice (some ⟨g, 0, none⟩) n n], .int .i64 a, .int .i64 0]) ∧ lv = l ∧ i = j ∧ l ≤ 3 ∧ j < pw l ∧ Right n B ∧ Root n B l root ∧ (bs = [] ∨ bs.length = 4) ∧ PutOk n B l root j bs cc C a ∧
    base ≤ g ∧ Own w g n C)

set_option maxHeartbeats 4000000 in
set_option maxRecDepth 100000 in
theorem treePutO_any (a : Option Addr) (n c : Nat) (B : Nat → Blk) (root lv i : Int) (ba : Option Addr) (bn bc : Nat) (bs : List Int) (cc : Int) (w : World) (h : StoreAt w a n B) (hb : NumsAt (fun _ => True) .u8 w ba bn bs) (hbc : bn ≤ bc) (h1 : 1 ≤ cc) (hcm : cc ≤ 999984) (hc : ∀ k, k < n → (B k).refs ≤ cc) :
    Calls Tryz.prog 215 #[.agg #[.slice a n c], .int .i64 root, .int .i64 lv, .int .i64 i, .slice ba bn bc] w fun e w' => RetPutO w.heap.size e w' n B root lv i bs cc ∧ Below w.heap.size w w' := by
  have b0 := (below_alloc w (.cells #[.slice a n c] 24)).alloc (by simp) (.cells #[.slice none 0 0] 24)
  have ks : CellsAt _ w.heap.size #[.slice a n c] 24 := (cellsAt_alloc w _ _).below (below_alloc _ (.cells #[.slice none 0 0] 24))
  have kr : CellsAt _ (w.heap.size + 1) #[.slice none 0 0] 24 := cellsAt_alloc2 w (.cells #[.slice a n c] 24) _ _
  have hsz : w.heap.size + 2 = ((w.alloc (.cells #[.slice a n c] 24)).alloc (.cells #[.slice none 0 0] 24)).heap.size := by simp
  have hP : PtrAt _ ⟨w.heap.size, 0, none⟩ a n c B := (ptr_boxed a n c B w 24 h).below (below_alloc _ (.cells #[.slice none 0 0] 24))
  replace hb := hid (hb.below b0)
  replace hP := hid hP
  replace ks := hid ks
  replace kr := hid kr
  replace hsz := hid hsz
  replace hc := hid hc
  clear h
  go_enter Tryz.func215, Tryz.ntmps215
  go_wp2_with fail
  generalize (w.alloc (.cells #[.slice a n c] 24)).alloc (.cells #[.slice none 0 0] 24) = w0 at *
  refine (treeCheck_any ⟨w.heap.size, 0, none⟩ a n c B root lv i w0 hP.out).mono ?_
  rintro e w1 ⟨⟨e1, rfl, he⟩, b1⟩
  have hsz1 : Hid (w.heap.size + 2 ≤ w1.heap.size) := hid (by have := hsz.out; have := b1.size; omega)
  replace hb := hid (hb.out.below b1)
  replace hP := hid (hP.out.below b1)
  replace ks := hid (ks.out.below b1)
  replace kr := hid (kr.out.below b1)
  replace b1 := Below.tr b0 b1
  clear b0 hsz
  by_cases h0 : e1 = 0
  · have h0' : (e1 == 0) = true := by simp [h0]
    obtain ⟨hR, l, hl, rfl, hr, hi0, hi1⟩ := he.1 h0
    obtain ⟨j, rfl⟩ : ∃ j : Nat, i = (j : Int) := ⟨i.toNat, by omega⟩
    have hj : j < pw l := by omega
    have hn := hR.small
    clear he hi0 hi1
    have hbl := hb.out.1
    by_cases hbs : bs = [] ∨ bs.length = 4
    · have hbn : bn = 0 ∨ bn = 4 := by
        rcases hbs with h | h
        · left; rw [← hbl, h]; rfl
        · right; rw [← hbl, h]
      have hF : ∀ i, i < n → (B i).kids.length ≤ 4 ∧ (B i).bytes.length ≤ 4 := fun i hi => ⟨(hR.one i hi).few, (hR.one i hi).few2⟩
      replace hF := hid hF
      replace hbs := hid hbs
      replace hR := hid hR
      replace hr := hid hr
      have hs1 := hP.out.cell
      clear hbl
      rcases hbn with rfl | rfl
      all_goals (
        go_wp2_with fail
        refine (copy_any ⟨w.heap.size, 0, none⟩ a n c B w1 hP.out hn hF.out).mono ?_
        rintro e w2 ⟨b2, g, rfl, hg, hOwn⟩
        have hsz2 := hsz1.out
        have hOl := hOwn.lt
        have k2 := cellsAt_alloc w2 #[.slice (some ⟨g, 0, none⟩) n n] 24
        have b3 := below_alloc w2 (.cells #[.slice (some ⟨g, 0, none⟩) n n] 24)
        have hP3 : OwnPtr (w2.alloc (.cells #[.slice (some ⟨g, 0, none⟩) n n] 24)) ⟨w2.heap.size, 0, none⟩ g n B := ⟨k2.lt, by show w2.heap.size ≠ g; omega, by simp, hOwn.below b3⟩
        have hb3 := ((hb.out.weaken (R := fun b => b ≠ g) (fun b h _ => by omega)).below b2).below b3
        have kr3 := (kr.out.below b2).below b3
        have b13 := Below.tr (Below.tr b1 b2) b3
        replace hP3 := hid hP3
        replace hb3 := hid hb3
        replace kr3 := hid kr3
        replace b13 := hid b13
        clear hOwn hb hP ks kr b1 b2 b3 k2 hs1
        go_wp2_with fail
        generalize w2.alloc (.cells #[.slice (some ⟨g, 0, none⟩) n n] 24) = w3 at *
        refine (put_any ⟨w2.heap.size, 0, none⟩ g n ba _ bc bs cc hbs.out hbc h1 hcm l B root j w3 hl hR.out hr.out hj hc.out hP3.out hb3.out).mono ?_
        rintro e w4 ⟨hD, hO, hFr⟩
        have hsz3 := b13.out.size
        have kr4 : CellsAt w4 (w.heap.size + 1) #[.slice none 0 0] 24 := (by unfold CellsAt; rw [hO.block _ kr3.out.lt (by omega)]; exact kr3.out)
        have r0 := kr4.cell 0
        have r1 := kr4.frozen 0
        simp at r0
        have b4 := b13.out.trans (hO.below (B := w.heap.size) (by omega) (by omega))
        clear hO hFr
        rcases hD with ⟨e', rfl, he, rfl, hus⟩ | ⟨C, a, rfl, hPk, hC⟩
        · go_wp2_with fail
          refine bodyPost_ret (v := .tuple #[.agg #[.slice none 0 0], .int .i64 0, .int .i64 8]) (by rw [results_cell_tmps rfl]; go_simp) rfl ⟨.inl ⟨8, rfl, by omega, fun _ _ => ⟨rfl, by omega⟩⟩, b4.setCell (by simp) _⟩
        · have s4 := hC.cell
          have kk := Kept.setCell (g := w.heap.size + 1) (Kept.refl _ w4) (p := ⟨w.heap.size + 1, 0, none⟩) rfl (.slice (some ⟨g, 0, none⟩) n n)
          have hB5 : Own (w4.setCell ⟨w.heap.size + 1, 0, none⟩ (.slice (some ⟨g, 0, none⟩) n n)) g n C := ⟨by rw [kk.size]; exact hC.own.lt, hC.own.blocks.kept (by omega) (fun b h => by omega) kk, fun i hi => (kk.frozen (p := ⟨g, i, none⟩) (by show g ≠ _; omega)).trans (hC.own.free i hi)⟩
          replace hB5 := hid hB5
          replace hPk := hid hPk
          replace hC := hid hC
          go_wp2_with fail
          refine bodyPost_ret (v := .tuple #[.agg #[.slice (some ⟨g, 0, none⟩) n n], .int .i64 a, .int .i64 0]) (by rw [results_cell_tmps rfl]; go_simp) rfl ⟨.inr ⟨l, j, C, a, g, rfl, rfl, rfl, hl, hj, hR.out, hr.out, hbs.out, hPk.out, by omega, hB5.out⟩, b4.setCell (by simp) _⟩)
    · have hbn0 : ((bn : Int) == 0) = false := by simp; intro h; exact hbs (.inl (List.eq_nil_of_length_eq_zero (by omega)))
      have hbn4 : ((bn : Int) == 4) = false := by simp; intro h; exact hbs (.inr (by omega))
      have r0 := kr.out.cell 0
      have r1 := kr.out.frozen 0
      simp at r0
      have hbn0' : ¬ bn = 0 := by simp at hbn0; omega
      have hbn4' : ¬ bn = 4 := by simp at hbn4; omega
      have hbn1 : ((bn : Int) != 0) = true := by simp; omega
      have hbn2 : ((bn : Int) != 4) = true := by simp; omega
      replace hbs := hid hbs
      go_wp2_with fail
      refine bodyPost_ret (v := .tuple #[.agg #[.slice none 0 0], .int .i64 0, .int .i64 2]) (by rw [results_cell_tmps rfl]; go_simp) rfl ⟨.inl ⟨2, rfl, by omega, fun _ f => absurd f hbs.out⟩, b1.setCell (by simp) _⟩
  · have h0' : (e1 == 0) = false := by simp [h0]
    have hno : Hid (¬ Checked n B root lv i) := hid (fun f => h0 (he.2 f))
    have r0 := kr.out.cell 0
    have r1 := kr.out.frozen 0
    simp at r0
    clear he
    go_wp2_with fail
    refine bodyPost_ret (v := .tuple #[.agg #[.slice none 0 0], .int .i64 0, .int .i64 e1]) (by rw [results_cell_tmps rfl]; go_simp) rfl ⟨.inl ⟨e1, rfl, h0, fun f => absurd f hno.out⟩, b1.setCell (by simp) _⟩
end Go.Proofs.YtihkljfcplfldaaGreat
