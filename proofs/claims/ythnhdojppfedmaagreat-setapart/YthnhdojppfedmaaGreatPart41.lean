/-
  SetApartWalk in one text. Nothing here is trusted.
-/
import Derived.Test.YthnhdojppfedmaaGreatPart36
import Derived.Test.YthnhdojppfedmaaGreatPart39
import Derived.Test.YthnhdojppfedmaaGreatPart40
set_option linter.unusedVariables false
namespace Go.Proofs.YthnhdojppfedmaaGreat
open Go.RowKit

abbrev aRead (nm : ByteArray) : AskE := ⟨11, nO, nm, nO, 0, 256, []⟩
theorem apart_mono {n : Nat} {key : Int} {B : Nat → Blk} {x : SetE} {C : Nat → Blk} {y : SetE} {E : Nat → Blk} {z : SetE} {c d : Int} (h : ApartInv n key B x C y E z c) (hd : c ≤ d) : ApartInv n key B x C y E z d := ⟨h.ok, h.held, h.moved, fun k hk => Int.le_trans (h.few k hk) hd⟩
theorem RetCl.uni {w w' : World} {n : Nat} {B : Nat → Blk} {key : Int} {x : SetE} {cc : Int} {e : Ending} (h : RetCl w n B key x cc e w') : ∃ (ga : Option Addr) (gn gc : Nat) (u : SetV) (e' : Int), e = .returned (.tuple #[.agg #[.slice ga gn gc], .agg #[.string u.name, .slice u.fa u.fn u.fc, .slice u.sa u.sn u.sc], .int .i64 e']) ∧ Below w.heap.size w w' ∧
    (e' = 0 → gn = n ∧ gc = n ∧ ∃ (g : Nat) (C : Nat → Blk) (y : SetE) (K : List Int), ga = some ⟨g, 0, none⟩ ∧ SetOk n B key x ∧ HeldR n B (rootsX x) ∧ Grow n B C K ∧ (∀ r : Int, r ≠ 0 → (rootsX y).count r = K.count r) ∧ SetOk n C key y ∧ HeldR n C (rootsX y) ∧ y.snaps = [] ∧ (∀ k, k < n → (C k).refs ≤ cc + 6) ∧ w.heap.size ≤ g ∧ Own w' g n C ∧ SetAt (fun b => w.heap.size ≤ b) w' u y) := by
  obtain ⟨b, ⟨e', rfl, he⟩ | ⟨g, C, u, y, K, rfl, h2, h3, h4, h5, h6, h7, h8, h9, ⟨h10, h11⟩, h12⟩⟩ := h
  · exact ⟨none, 0, 0, ⟨ByteArray.mk #[], none, 0, 0, none, 0, 0⟩, e', rfl, b, fun h => absurd h he⟩
  · exact ⟨_, n, n, u, 0, rfl, b, fun _ => ⟨rfl, rfl, g, C, y, K, rfl, h2, h3, h4, h5, h6, h7, h8, h9, h10, h11, h12⟩⟩

set_option maxHeartbeats 16000000 in
set_option maxRecDepth 100000 in
theorem setApart_any (sa : Option Addr) (n sc : Nat) (B : Nat → Blk) (key : Int) (v : SetV) (x : SetE) (nm to : ByteArray) (qa : Option Addr) (qn qc : Nat) (ql : List AskE) (w : World) (hnm : n ≤ 9223372036854775807) (hs : StoreAt w sa n B) (hX : SetAt (fun _ => True) w v x) (h1 : nm.size ≤ maxLen) (h2 : to.size ≤ maxLen) (hqc : qn ≤ qc) (hqm : qn ≤ maxLen) (hq : AsksAt w qa qn ql) :
    Calls Tryz.prog 5 #[.agg #[.slice sa n sc], .int .i64 key, v.val, .string nm, .string to, .slice qa qn qc] w fun e w' => e = .returned (.bool true) ∧ Below w.heap.size w w' := by
  unfold SetV.val
  have b0 := below_two w (.cells #[.slice sa n sc] 24) (.cells #[.string v.name, .slice v.fa v.fn v.fc, .slice v.sa v.sn v.sc] 28)
  have A0 : AB w ((w.alloc (.cells #[.slice sa n sc] 24)).alloc (.cells #[.string v.name, .slice v.fa v.fn v.fc, .slice v.sa v.sn v.sc] 28)) sa n sc v := ⟨b0, (cellsAt_alloc w _ _).below (below_alloc _ _), cellsAt_alloc2 w (.cells #[.slice sa n sc] 24) _ _⟩
  have hz0 : w.heap.size + 2 ≤ ((w.alloc (.cells #[.slice sa n sc] 24)).alloc (.cells #[.string v.name, .slice v.fa v.fn v.fc, .slice v.sa v.sn v.sc] 28)).heap.size := by simp
  replace A0 := hid A0
  replace hs := hid hs
  replace hX := hid hX
  replace hq := hid hq
  clear b0
  go_enter Tryz.func5, Tryz.ntmps5
  go_wp2_with fail
  generalize (w.alloc (.cells #[.slice sa n sc] 24)).alloc (.cells #[.string v.name, .slice v.fa v.fn v.fc, .slice v.sa v.sn v.sc] 28) = w0 at *
  refine (crowded_any sa n sc B w0 hnm (hs.out.below A0.out.bel)).mono ?_
  rintro e w1 ⟨⟨t, rfl, hcr⟩, b1⟩
  replace A0 := hid (A0.out.below b1)
  have hz1 := Nat.le_trans hz0 b1.size
  clear b1 hz0
  cases t
  case true =>
    clear hcr
    go_wp2_with fail
    go_ret
    exact ⟨rfl, A0.out.bel⟩
  have hc : Hid (∀ k, k < n → (B k).refs ≤ 999000) := hid (hcr rfl)
  clear hcr
  have s0 := A0.out.s.cell 0
  have x0' := A0.out.x.cell 0
  have x1' := A0.out.x.cell 1
  have x2' := A0.out.x.cell 2
  simp at s0 x0' x1' x2'
  go_wp2_with fail
  refine (clone_any sa n sc B key v x nm to 999000 w1 (hs.out.below A0.out.bel) (hX.out.below A0.out.bel) h1 h2 hc.out (by omega)).mono ?_
  rintro e w2 hD
  obtain ⟨ga, gn, gc, u, e', rfl, bD, hyes⟩ := hD.uni
  have bA := below_two w2 (.cells #[.slice ga gn gc] 24) (.cells #[.string u.name, .slice u.fa u.fn u.fc, .slice u.sa u.sn u.sc] 28)
  have k11 : CellsAt _ w2.heap.size #[.slice ga gn gc] 24 := (cellsAt_alloc w2 _ _).below (below_alloc _ (.cells #[.string u.name, .slice u.fa u.fn u.fc, .slice u.sa u.sn u.sc] 28))
  have k12 := cellsAt_alloc2 w2 (.cells #[.slice ga gn gc] 24) #[.string u.name, .slice u.fa u.fn u.fc, .slice u.sa u.sn u.sc] 28
  replace A0 := hid ((A0.out.below bD).below bA)
  have hz2 := Nat.le_trans hz1 bD.size
  replace hyes := hid hyes
  replace k11 := hid k11
  replace k12 := hid k12
  replace bA := hid bA
  clear hD bD s0 x0' x1' x2'
  go_wp2_with fail
  generalize (w2.alloc (.cells #[.slice ga gn gc] 24)).alloc (.cells #[.string u.name, .slice u.fa u.fn u.fc, .slice u.sa u.sn u.sc] 28) = w3 at *
  refine (gathered_any w3).mono ?_
  rintro e w4 ⟨rfl, b4⟩
  replace A0 := hid (A0.out.below b4)
  by_cases h0 : e' = 0
  case neg =>
    have h0' : (e' == 0) = false := by simp [h0]
    go_wp2_with fail
    refine (gathered_any w4).mono ?_
    rintro e w5 ⟨rfl, b5⟩
    replace A0 := hid (A0.out.below b5)
    clear b5 b4
    go_wp2_with fail
    go_ret
    exact ⟨rfl, A0.out.bel⟩
  subst h0
  obtain ⟨hgn, hgc, g, D, y, K, rfl, hx, hh, hgr, hcnt, hyok, hyh, hysn, hfew, hg, hO, hSy⟩ := hyes.out rfl
  obtain rfl := hgn.symm
  obtain rfl := hgc.symm
  have hu0 : Hid (u.sn = 0) := hid (by rw [← hSy.snaps.1, hysn]; rfl)
  have hI : Hid (ApartInv n key B x D y D y 999006) := hid ⟨hyok, hyh, moved_refl hyok.right, fun k hk => by have := hfew k hk; omega⟩
  have hgl := hO.lt
  have hB0 : Blocks (fun b => b ≠ w2.heap.size ∧ b ≠ w2.heap.size + 1) w2 g 0 n D := hO.blocks.weaken (fun b hb _ => ⟨by omega, by omega⟩)
  have hS0 : SetAt (fun b => b ≠ w2.heap.size ∧ b ≠ w2.heap.size + 1) w2 u y := hSy.weaken (fun b hb _ => ⟨by omega, by omega⟩)
  have hF0 : EntsAt (fun b => b ≠ w2.heap.size ∧ b ≠ w2.heap.size + 1) w v.fa v.fn x.files := hX.out.files.weaken (fun b hb _ => ⟨by omega, by omega⟩)
  have hT0 : Hid (TB w4 w2.heap.size (w2.heap.size + 1) n g D u y) := hid ⟨k11.out.below b4, k12.out.below b4, ⟨by omega, by omega, by omega⟩, Nat.lt_of_lt_of_le hgl (Nat.le_trans bA.out.size b4.size), (hB0.below bA.out).below b4, (hS0.below bA.out).below b4⟩
  have hI0 : Hid (SI w w4 sa n sc v w2.heap.size (w2.heap.size + 1) v.fa v.fn x.files) := hid ⟨A0.out, hF0.below A0.out.bel, ⟨by omega, by omega⟩⟩
  have hxR := hid hx.right
  have hl4 := hid (right_lens hx.right)
  have hn4 := hx.right.small
  replace hx := hid hx
  replace hh := hid hh
  replace hgr := hid hgr
  replace hcnt := hid hcnt
  replace hyok := hid hyok
  replace hyh := hid hyh
  have s0 := hT0.out.s.cell 0
  have t0 := hT0.out.s.frozen 0
  have x0' := hT0.out.x.cell 0
  have x1' := hT0.out.x.cell 1
  have x2' := hT0.out.x.cell 2
  have u0 := hT0.out.x.frozen 0
  have u1 := hT0.out.x.frozen 1
  have u2' := hT0.out.x.frozen 2
  simp at s0 x0' x1' x2'
  clear hyes k11 k12 bA b4 hF0 hB0 hS0 hO hSy A0 hz1 hg hgl hfew hysn
  generalize hbb : w2.heap.size = b11 at *
  clear hbb
  go_wp2_with fail
  refine (destroy_ok (fun b => b ≠ b11 ∧ b ≠ b11 + 1) (some ⟨g, 0, none⟩) n n D key u y w4 hT0.out.store hT0.out.set hyok.out hyh.out).mono ?_
  rintro e w5 ⟨⟨g4, D4, rfl, hR4, hF4, hS4⟩, b5⟩
  have hgone := (apart_gone hxR.out hgr.out hcnt.out hI.out hR4 hF4 hR4 hF4).1
  have bB := below_alloc w5 (.cells #[.slice (some ⟨g4, 0, none⟩) n n] 24)
  have k16 := hid (cellsAt_alloc w5 #[.slice (some ⟨g4, 0, none⟩) n n] 24)
  replace hS4 := hid ((store_congr hS4 hgone).below bB)
  replace hT0 := hid ((hT0.out.below b5).below bB)
  replace hI0 := hid ((hI0.out.below b5).below bB)
  clear s0 t0 x0' x1' x2' u0 u1 u2'
  have hDG : Hid (∃ G, Right n G ∧ Fell n D G (rootsX y)) := hid ⟨D4, hR4, hF4⟩
  clear b5 bB hgone hR4 hF4
  go_upto_region 7 with fail
  generalize w5.alloc (.cells #[.slice (some ⟨g4, 0, none⟩) n n] 24) = w6 at *
  have r0 := k16.out.cell 0
  have v0 := hI0.out.ab.s.cell 0
  simp at r0 v0
  go_wp2_with fail
  refine (storeSame_true (some ⟨g4, 0, none⟩) sa n n sc B w6 hn4 hl4.out hS4.out (hs.out.below hI0.out.ab.bel)).mono ?_
  rintro e w7 ⟨rfl, b7⟩
  replace hT0 := hid (hT0.out.below b7)
  replace hI0 := hid (hI0.out.below b7)
  have p2 := hT0.out.x.cell 2
  simp at p2
  rw [hu0.out] at p2
  clear r0 v0 b7 hS4 k16
  obtain ⟨m, hmq, hm12, hmin⟩ : ∃ m : Nat, m ≤ qn ∧ m ≤ 12 ∧ min (qn : Int) 12 = (m : Int) := ⟨min qn 12, by omega, by omega, by omega⟩
  have hmc : m ≤ qc := by omega
  have hmx : (m : Int) ≤ 9223372036854775807 := by omega
  go_wp2_with fail
  go_loopw [74] (fun v' wr => ∃ (i g : Nat) (u' : SetV) (C : Nat → Blk) (y' : SetE), i ≤ m ∧ v' = .int .i64 i ∧ SI w wr sa n sc v b11 (b11 + 1) v.fa v.fn x.files ∧ TB wr b11 (b11 + 1) n g C u' y' ∧ ApartInv n key B x D y C y' (999006 + 48 * (i : Int))) (fun v' _ => m - (Go.RowKit.intOf v').toNat)
  case atStart => exact ⟨0, g, u, D, y, Nat.zero_le _, rfl, hI0.out, hT0.out, by simpa using hI.out⟩
  case round =>
    obtain ⟨i, g2, u2, C, y2, him, rfl, hSI, hTB, hInv⟩ := hrel
    clear hI0 hT0 hI
    by_cases hlt : i < m
    · obtain ⟨qb, qo, rfl⟩ : ∃ b off, qa = some ⟨b, off, none⟩ := by
        obtain ⟨b, off, e, _⟩ := hq.out.2 (by omega)
        exact ⟨b, off, e⟩
      obtain ⟨ba, bn, bc, hAk⟩ := (hq.out.below hSI.ab.bel).ask (i := i) (by omega)
      generalize ql.getD i AskE.zero = a at *
      have c0 := hAk.c0
      have c1 := hAk.c1
      have c2 := hAk.c2
      have c3 := hAk.c3
      have c4 := hAk.c4
      have c5 := hAk.c5
      have c6 := hAk.c6
      have bK := hid (below_alloc wr (.cells #[.int .i64 a.kind, .string a.set, .string a.file, .string a.to, .int .i64 a.pos, .int .i64 a.num, .slice ba bn bc] 36))
      have hby := hid (hAk.bytes.below bK.out)
      have hao := hid hAk.ok
      have s0 := hTB.s.cell 0
      have t0 := hTB.s.frozen 0
      have x0' := hTB.x.cell 0
      have x1' := hTB.x.cell 1
      have x2' := hTB.x.cell 2
      have u0 := hTB.x.frozen 0
      have u1 := hTB.x.frozen 1
      have u2' := hTB.x.frozen 2
      simp at s0 x0' x1' x2'
      have l1 := hTB.s.lt
      have l3 := hTB.x.lt
      replace hSI := hid hSI
      replace hTB := hid hTB
      replace hInv := hid hInv
      clear hAk
      have hTK := hid (hTB.out.below bK.out)
      have hSK := hid (hSI.out.below bK.out)
      have cK := hid (cellsAt_alloc wr #[.int .i64 a.kind, .string a.set, .string a.file, .string a.to, .int .i64 a.pos, .int .i64 a.num, .slice ba bn bc] 36)
      go_wp2_with fail
      clear c0 c1 c2 c3 c4 c5 c6 s0 t0 x0' x1' x2' u0 u1 u2' l1 l3
      generalize wr.alloc (.cells #[.int .i64 a.kind, .string a.set, .string a.file, .string a.to, .int .i64 a.pos, .int .i64 a.num, .slice ba bn bc] 36) = wK at *
      refine (do_any (fun b => b ≠ b11 ∧ b ≠ b11 + 1) (some ⟨g2, 0, none⟩) n n C key u2 y2 a ba bn bc (999006 + 48 * (i : Int)) wK hTK.out.store hTK.out.set hby.out hao.out (by omega) hInv.out.few (by have := left_le a; omega)).mono ?_
      rintro e w5 hD
      obtain ⟨ga, gn, gc, u3, e3, rfl, bD, hno, hyes⟩ := hD.uni2
      have bA := below_two w5 (.cells #[.slice ga gn gc] 24) (.cells #[.string u3.name, .slice u3.fa u3.fn u3.fc, .slice u3.sa u3.sn u3.sc] 28)
      have k17 : CellsAt _ w5.heap.size #[.slice ga gn gc] 24 := (cellsAt_alloc w5 _ _).below (below_alloc _ (.cells #[.string u3.name, .slice u3.fa u3.fn u3.fc, .slice u3.sa u3.sn u3.sc] 28))
      have k18 := cellsAt_alloc2 w5 (.cells #[.slice ga gn gc] 24) #[.string u3.name, .slice u3.fa u3.fn u3.fc, .slice u3.sa u3.sn u3.sc] 28
      replace k17 := hid k17
      replace k18 := hid k18
      by_cases h3 : e3 = 0
      case neg =>
        have h3' : (e3 == 0) = false := by simp [h3]
        have hTF := hid ((hTK.out.below bD).below bA)
        have hSF := hid ((hSK.out.below bD).below bA)
        clear bD bA hD hno hyes k17 k18 cK
        go_wp2_with fail
        go_roundw
        case rel => exact ⟨i + 1, g2, u2, C, y2, by omega, by go_num, hSF.out, hTF.out, apart_mono hInv.out (by omega)⟩
        case measure => simp [Go.RowKit.intOf]; omega
      subst h3
      obtain ⟨hgn, hgc, g3, D3, z, rfl, _, _, hd, hg3, hO3, hS3⟩ := hyes rfl
      obtain rfl := hgn.symm
      obtain rfl := hgc.symm
      have hA := hd.after hInv.out.ok hInv.out.held hby.out.bytesAt.2.1 hInv.out.few (by have := left_le a; omega)
      have hInv' := hid (hInv.out.step hA.1 (d := 999006 + 48 * ((i : Int) + 1)) (fun k hk => by have := hA.2 k hk; have := left_le a; omega))
      obtain ⟨hT5, on5⟩ := hTK.out.put (Below.tr bD bA) hg3 (hO3.below bA) (hS3.below bA)
      have hS5 := hid (SI.only ((hSK.out.below bD).below bA) on5)
      have hTA := (hTK.out.below bD).below bA
      have s0 := hTA.s.cell 0
      have t0 := hTA.s.frozen 0
      have x0' := hTA.x.cell 0
      have x1' := hTA.x.cell 1
      have x2' := hTA.x.cell 2
      have u0 := hTA.x.frozen 0
      have u1 := hTA.x.frozen 1
      have u2' := hTA.x.frozen 2
      simp at s0 x0' x1' x2'
      have l1 := hTA.s.lt
      have l3 := hTA.x.lt
      have hs5 := Nat.le_refl w5.heap.size
      have hTl := (hTK.out.below bD)
      have m1 := Nat.ne_of_lt hTl.s.lt
      have m3 := Nat.ne_of_lt hTl.x.lt
      have m2 : b11 ≠ w5.heap.size + 1 := by have := hTl.s.lt; omega
      have m4 : b11 + 1 ≠ w5.heap.size + 1 := by have := hTl.x.lt; omega
      have m5 : b11 ≠ w5.heap.size := m1
      have m1' := m1.symm
      have m2' := m2.symm
      have m3' := m3.symm
      have m4' := m4.symm
      replace hT5 := hid hT5
      clear hA hd hO3 hS3 on5 bD bA hD hno hyes hTA hTl cK
      go_upto_region 14 with fail
      generalize (w5.alloc (.cells #[.slice (some ⟨g3, 0, none⟩) n n] 24)).alloc (.cells #[.string u3.name, .slice u3.fa u3.fn u3.fc, .slice u3.sa u3.sn u3.sc] 28) = wA at *
      have r0 := k17.out.cell 0
      have r1 := k18.out.cell 0
      have r2 := k18.out.cell 1
      have r3 := k18.out.cell 2
      simp at r0 r1 r2 r3
      go_region_held3 (fun w' => w'.cell? ⟨w5.heap.size, 0, none⟩ = some (.slice (some ⟨g3, 0, none⟩) n n) ∧ w'.cell? ⟨w5.heap.size + 1, 0, none⟩ = some (.string u3.name) ∧ w'.cell? ⟨w5.heap.size + 1, 1, none⟩ = some (.slice u3.fa u3.fn u3.fc) ∧ w'.cell? ⟨w5.heap.size + 1, 2, none⟩ = some (.slice u3.sa u3.sn u3.sc)) (first | go_keep | assumption) (first | fail)
      all_goals (
        clear s0 t0 x0' x1' x2' u0 u1 u2'
        clear r0 r1 r2 r3
        go_wp2_with fail
        go_roundw
        case rel => first
          | exact ⟨i + 1, g3, u3, D3, z, by omega, by go_num, hS5.out, hT5.out, hInv'.out⟩
          | exact ⟨i + 1, g3, u3, D3, z, by omega, by go_num, hS5.out.below (below_drew _ _), hT5.out.below (below_drew _ _), hInv'.out⟩
        case measure => simp [Go.RowKit.intOf]; omega)
    · obtain rfl : i = m := by omega
      have hrd := apart_reads hx.out hh.out hgr.out hcnt.out hInv
      have hxE := hid hrd.1
      have hfE : Hid (∀ f ∈ x.files, fileL key (leafAt C 3 f.root) = fileL key (leafAt B 3 f.root)) := hid (fun f hf => hrd.2 f (List.mem_append_left _ hf))
      have hv6 : v.fn ≤ 6 := by rw [← hSI.files.1]; exact hx.out.shape.few
      replace hSI := hid hSI
      replace hTB := hid hTB
      replace hInv := hid hInv
      have xx1 := hSI.out.ab.x.cell 1
      simp at xx1
      clear hrd
      generalize hfa : v.fa = fa at *
      replace hfa := hid hfa
      go_wp2_with fail
      clear xx1
      go_loopw [95] (fun v' wr => ∃ j : Nat, j ≤ v.fn ∧ v' = .int .i64 j ∧ SI w wr sa n sc v b11 (b11 + 1) fa v.fn x.files ∧ TB wr b11 (b11 + 1) n g2 C u2 y2) (fun v' _ => v.fn - (Go.RowKit.intOf v').toNat)
      case atStart => exact ⟨0, Nat.zero_le _, rfl, hSI.out, hTB.out⟩
      case round =>
        clear hSI hTB
        obtain ⟨j, hjn, rfl, hSI, hTB⟩ := hrel
        rename_i wr
        by_cases hjl : j < v.fn
        · obtain ⟨fb, fo, rfl⟩ : ∃ b off, fa = some ⟨b, off, none⟩ := by
            obtain ⟨b, off, e, _⟩ := hSI.files.2.2 (by omega)
            exact ⟨b, off, e⟩
          have hEn := hSI.files.ent hjl
          have hjx : j < x.files.length := by rw [hSI.files.1]; exact hjl
          have hmem : x.files.getD j Ent.zero ∈ x.files := by simp [List.getD, hjx]
          generalize x.files.getD j Ent.zero = f at *
          have hok := hx.out.files.files f hmem
          have hns : f.name.size ≤ maxLen := (hSI.files.2.1 f hmem).1
          have c0 := hEn.c0
          have c1 := hEn.c1
          have c2 := hEn.c2
          have s0 := hSI.ab.s.cell 0
          have xx0 := hSI.ab.x.cell 0
          have xx1 := hSI.ab.x.cell 1
          have xx2 := hSI.ab.x.cell 2
          have lS := hSI.ab.s.lt
          have lX := hSI.ab.x.lt
          simp at s0 xx0 xx1 xx2
          have hj0 : (0 : Int) ≤ (j : Int) := by omega
          have hj1 : (j : Int) < (v.fn : Int) := by omega
          have bK := below_alloc wr (.cells #[.string f.name, .int .i64 f.root, .int .i64 f.size] 44)
          have kE := hid (cellsAt_alloc wr #[.string f.name, .int .i64 f.root, .int .i64 f.size] 44)
          have hSK := hid (hSI.below bK)
          have hTK := hid (hTB.below bK)
          replace hmem := hid hmem
          replace hok := hid hok
          clear hEn hjx bK hSI hTB
          rw [hfa.out] at xx1
          have hxb := hid (hX.out.below hSK.out.ab.bel)
          go_wp2_with fail
          clear c0 c1 c2 s0 xx0 xx1 xx2 lS lX
          generalize hWK : wr.alloc (.cells #[.string f.name, .int .i64 f.root, .int .i64 f.size] 44) = wK at *
          replace hWK := hid hWK
          have lk := look_read (fun _ => True) sa n sc B key v x (aRead f.name) none 0 0 f wK (hs.out.below hSK.out.ab.bel) hxb.out hx.out rfl hmem.out rfl ⟨⟨by simp, by simp⟩, by simp, by simp⟩
          simp only [SetV.val, hfa.out] at lk
          refine lk.mono ?_
          clear lk
          rintro e w10 ⟨⟨ya, yn, yc, rfl, _, hY⟩, b10⟩
          have bA := below_alloc w10 (.cells #[.int .i64 0, .int .i64 f.size, .slice none 0 0, .slice ya yn yc] 57)
          have kA := hid (cellsAt_alloc w10 #[.int .i64 0, .int .i64 f.size, .slice none 0 0, .slice ya yn yc] 57)
          replace hSK := hid ((hSK.out.below b10).below bA)
          replace hTK := hid ((hTK.out.below b10).below bA)
          replace kE := hid ((kE.out.below b10).below bA)
          replace hY := hid (hY.below bA)
          clear b10 bA hxb
          go_upto_region 20 with fail
          generalize w10.alloc (.cells #[.int .i64 0, .int .i64 f.size, .slice none 0 0, .slice ya yn yc] 57) = w11 at *
          have hxb := hid (hX.out.below hSK.out.ab.bel)
          have s0 := hTK.out.s.cell 0
          have xx0 := hSK.out.ab.x.cell 0
          have xx1 := hSK.out.ab.x.cell 1
          have xx2 := hSK.out.ab.x.cell 2
          have e0 := kE.out.cell 0
          simp at s0 xx0 xx1 xx2 e0
          rw [hfa.out] at xx1
          go_wp2_with fail
          clear s0 xx0 xx1 xx2 e0
          have lk := look_read (fun _ => True) (some ⟨g2, 0, none⟩) n n C key v x (aRead f.name) none 0 0 f w11 hTK.out.store hxb.out hxE.out rfl hmem.out rfl ⟨⟨by simp, by simp⟩, by simp, by simp⟩
          rw [hfE.out f hmem.out] at lk
          simp only [SetV.val, hfa.out] at lk
          refine lk.mono ?_
          clear lk
          rintro e w12 ⟨⟨za, zn, zc, rfl, _, hZ⟩, b12'⟩
          have bB := below_alloc w12 (.cells #[.int .i64 0, .int .i64 f.size, .slice none 0 0, .slice za zn zc] 57)
          have kB := hid (cellsAt_alloc w12 #[.int .i64 0, .int .i64 f.size, .slice none 0 0, .slice za zn zc] 57)
          replace hSK := hid ((hSK.out.below b12').below bB)
          replace hTK := hid ((hTK.out.below b12').below bB)
          replace kA := hid ((kA.out.below b12').below bB)
          replace hY := hid ((hY.out.below b12').below bB)
          replace hZ := hid (hZ.below bB)
          clear b12' bB hxb kE
          go_upto_region 21 with fail
          generalize w12.alloc (.cells #[.int .i64 0, .int .i64 f.size, .slice none 0 0, .slice za zn zc] 57) = w13 at *
          have a0 := kA.out.cell 0
          have a1 := kA.out.cell 1
          have a2 := kA.out.cell 2
          have a3 := kA.out.cell 3
          have d0 := kB.out.cell 0
          have d1 := kB.out.cell 1
          have d2 := kB.out.cell 2
          have d3 := kB.out.cell 3
          simp at a0 a1 a2 a3 d0 d1 d2 d3
          go_wp2_with fail
          refine (sameAnswer_true f.size ya za yn yc zn zc _ _ _ w13 hY.out hZ.out).mono ?_
          rintro e w14 ⟨rfl, b14⟩
          replace hSK := hid (hSK.out.below b14)
          replace hTK := hid (hTK.out.below b14)
          clear a0 a1 a2 a3 d0 d1 d2 d3 b14 hY hZ kA kB hWK hok hmem
          go_wp2_with fail
          go_roundw
          case rel => exact ⟨j + 1, by omega, by go_num, hSK.out, hTK.out⟩
          case measure => simp [Go.RowKit.intOf]; omega
        · obtain rfl : j = v.fn := by omega
          replace hSI := hid hSI
          replace hTB := hid hTB
          have s0 := hTB.out.s.cell 0
          have t0 := hTB.out.s.frozen 0
          have x0' := hTB.out.x.cell 0
          have x1' := hTB.out.x.cell 1
          have x2' := hTB.out.x.cell 2
          have u0 := hTB.out.x.frozen 0
          have u1 := hTB.out.x.frozen 1
          have u2' := hTB.out.x.frozen 2
          simp at s0 x0' x1' x2'
          go_wp2_with fail
          refine (destroy_own (fun b => b ≠ b11 ∧ b ≠ b11 + 1) (some ⟨g2, 0, none⟩) n n C key u2 y2 wr hTB.out.store hTB.out.set hInv.out.ok hInv.out.held).mono ?_
          rintro e w10 ⟨⟨g4, D4, rfl, hR4, hF4, hg4, hO4⟩, b10⟩
          obtain ⟨G, hG, hFG⟩ := hDG.out
          have hgone := (apart_gone hxR.out hgr.out hcnt.out hInv.out hG hFG hR4 hF4).2
          have lb := hTB.out.s.lt
          have nb := hSI.out.new
          have kp := kept_putS w10 b11 (.slice (some ⟨g4, 0, none⟩) n n)
          have onp : Only (fun k => k = b11 ∨ k = b11 + 1) w10 (w10.setCell ⟨b11, 0, none⟩ (.slice (some ⟨g4, 0, none⟩) n n)) := Only.of_kept kp (.inl rfl)
          have hS4 := hid (store_congr (own_only hO4 onp (fun b hb m => by have := hTB.out.x.lt; omega)).store hgone)
          have hSF := hid ((hSI.out.below b10).only onp)
          have hs13 := hid (cells_putS (s := .slice (some ⟨g4, 0, none⟩) n n) (hTB.out.s.below b10))
          clear s0 t0 x0' x1' x2' u0 u1 u2'
          have s0 := (hTB.out.s.below b10).cell 0
          have t0 := (hTB.out.s.below b10).frozen 0
          simp at s0
          clear hR4 hF4 hg4 hO4 hG hFG hgone onp kp b10
          go_upto_region 25 with fail
          clear s0 t0
          generalize w10.setCell ⟨b11, 0, none⟩ (.slice (some ⟨g4, 0, none⟩) n n) = w11 at *
          have s0 := hs13.out.cell 0
          have v0 := hSF.out.ab.s.cell 0
          simp at s0 v0
          go_wp2_with fail
          refine (storeSame_true (some ⟨g4, 0, none⟩) sa n n sc B w11 hn4 hl4.out hS4.out (hs.out.below hSF.out.ab.bel)).mono ?_
          rintro e w12 ⟨rfl, b12'⟩
          replace hSF := hid (hSF.out.below b12')
          clear s0 v0 b12'
          go_wp2_with fail
          go_ret
          exact ⟨rfl, hSF.out.ab.bel⟩
end Go.Proofs.YthnhdojppfedmaaGreat
