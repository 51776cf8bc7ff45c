/-
  SetSnapWalk in one text. Nothing here is trusted.
-/
import Derived.Test.YthnhdojppfedmaaGreatPart36
set_option linter.unusedVariables false
namespace Go.Proofs.YthnhdojppfedmaaGreat
open Go.RowKit

theorem more_back (to : ByteArray) : moreOf (aBack to) = 0 := by simp [moreOf]
theorem byt_ne {a b : ByteArray} (h : a ≠ b) : (a == b) = false := by
  rw [beq_toListBytes, beq_eq_false_iff_ne]
  intro e
  rw [ByteArray.toList_eq, ByteArray.toList_eq] at e
  exact h (bytes_eq e)

set_option maxHeartbeats 8000000 in
set_option maxRecDepth 100000 in
theorem setSnap_any (sa : Option Addr) (n sc : Nat) (B : Nat → Blk) (key : Int) (v : SetV) (x : SetE) (nm : ByteArray) (qa : Option Addr) (qn qc : Nat) (ql : List AskE) (w : World) (hnm : n ≤ 9223372036854775807) (hs : StoreAt w sa n B) (hX : SetAt (fun _ => True) w v x) (h1 : nm.size ≤ maxLen) (hqc : qn ≤ qc) (hqm : qn ≤ maxLen) (hq : AsksAt w qa qn ql) :
    Calls Tryz.prog 3 #[.agg #[.slice sa n sc], .int .i64 key, v.val, .string nm, .slice qa qn qc] w fun e w' => e = .returned (.bool true) ∧ Below w.heap.size w w' := by
  unfold SetV.val
  have b0 := below_two w (.cells #[.slice sa n sc] 24) (.cells #[.string v.name, .slice v.fa v.fn v.fc, .slice v.sa v.sn v.sc] 28)
  have A0 : AB w ((w.alloc (.cells #[.slice sa n sc] 24)).alloc (.cells #[.string v.name, .slice v.fa v.fn v.fc, .slice v.sa v.sn v.sc] 28)) sa n sc v := ⟨b0, (cellsAt_alloc w _ _).below (below_alloc _ _), cellsAt_alloc2 w (.cells #[.slice sa n sc] 24) _ _⟩
  have hz0 : w.heap.size + 2 ≤ ((w.alloc (.cells #[.slice sa n sc] 24)).alloc (.cells #[.string v.name, .slice v.fa v.fn v.fc, .slice v.sa v.sn v.sc] 28)).heap.size := by simp
  replace A0 := hid A0
  replace hs := hid hs
  replace hX := hid hX
  replace hq := hid hq
  clear b0
  go_enter Tryz.func3, Tryz.ntmps3
  go_wp2_with fail
  generalize (w.alloc (.cells #[.slice sa n sc] 24)).alloc (.cells #[.string v.name, .slice v.fa v.fn v.fc, .slice v.sa v.sn v.sc] 28) = w0 at *
  refine (crowded_any sa n sc B w0 hnm (hs.out.below A0.out.bel)).mono ?_
  rintro e w1 ⟨⟨t, rfl, hcr⟩, b1⟩
  replace A0 := hid (A0.out.below b1)
  have hz1 := Nat.le_trans hz0 b1.size
  clear b1 hz0
  cases t
  case true =>
    clear hcr
    go_wp2_with fail
    go_ret
    exact ⟨rfl, A0.out.bel⟩
  have hc : Hid (∀ k, k < n → (B k).refs ≤ 999000) := hid (hcr rfl)
  clear hcr
  have s0 := A0.out.s.cell 0
  have x0' := A0.out.x.cell 0
  have x1' := A0.out.x.cell 1
  have x2' := A0.out.x.cell 2
  simp at s0 x0' x1' x2'
  go_wp2_with fail
  refine (do_any (fun _ => True) sa n sc B key v x (aSnap nm) none 0 0 999000 w1 (hs.out.below A0.out.bel) (hX.out.below A0.out.bel) (nums_nil _) (ok_snap h1) (by omega) hc.out (by rw [more_snap]; omega)).mono ?_
  rintro e w2 hD
  obtain ⟨ga, gn, gc, u, e', rfl, bD, hno, hyes⟩ := hD.uni2
  have bA := below_two w2 (.cells #[.slice ga gn gc] 24) (.cells #[.string u.name, .slice u.fa u.fn u.fc, .slice u.sa u.sn u.sc] 28)
  have k11 : CellsAt _ w2.heap.size #[.slice ga gn gc] 24 := (cellsAt_alloc w2 _ _).below (below_alloc _ (.cells #[.string u.name, .slice u.fa u.fn u.fc, .slice u.sa u.sn u.sc] 28))
  have k12 := cellsAt_alloc2 w2 (.cells #[.slice ga gn gc] 24) #[.string u.name, .slice u.fa u.fn u.fc, .slice u.sa u.sn u.sc] 28
  replace A0 := hid ((A0.out.below bD).below bA)
  have hz2 := Nat.le_trans hz1 bD.size
  replace hyes := hid hyes
  replace k11 := hid k11
  replace k12 := hid k12
  replace bA := hid bA
  clear hD bD s0 x0' x1' x2' hno
  go_wp2_with fail
  generalize (w2.alloc (.cells #[.slice ga gn gc] 24)).alloc (.cells #[.string u.name, .slice u.fa u.fn u.fc, .slice u.sa u.sn u.sc] 28) = w3 at *
  refine (gathered_any w3).mono ?_
  rintro e w4 ⟨rfl, b4⟩
  replace A0 := hid (A0.out.below b4)
  by_cases h0 : e' = 0
  case neg =>
    have h0' : (e' == 0) = false := by simp [h0]
    go_wp2_with fail
    refine (gathered_any w4).mono ?_
    rintro e w5 ⟨rfl, b5⟩
    replace A0 := hid (A0.out.below b5)
    clear b5 b4
    go_wp2_with fail
    go_ret
    exact ⟨rfl, A0.out.bel⟩
  subst h0
  obtain ⟨hgn, hgc, g, D, y, rfl, hx, hh, hd, hg, hO, hSy⟩ := hyes.out rfl
  obtain rfl := hgn.symm
  obtain rfl := hgc.symm
  have hA := hd.after hx hh bytes_nil hc.out (by rw [more_snap]; omega)
  have hps := plain_snap (hd.plain (by simp) (by simp)).1 rfl
  obtain ⟨_, _, _, hsn, hyf⟩ := snap_forgot (b := aForg nm) hx.shape hps rfl
  have hin : Hid (IsName nm) := hid hps.1.1
  have hI : Hid (SnapInv n key B x nm D y 999006) := hid (snapInv_start hA.1 hsn (fun k hk => by have := hA.2 k hk; rw [left_snap] at this; omega))
  have hyl := hSy.files.1
  rw [hyf] at hyl
  have hx6 := hx.shape.few
  have hgl := hO.lt
  have hF0 : EntsAt (fun b => b ≠ w2.heap.size ∧ b ≠ w2.heap.size + 1) w2 u.fa u.fn x.files := by
    have := hSy.files
    rw [hyf] at this
    exact this.weaken (fun b hb _ => ⟨by omega, by omega⟩)
  have hB0 : Blocks (fun b => b ≠ w2.heap.size ∧ b ≠ w2.heap.size + 1) w2 g 0 n D := hO.blocks.weaken (fun b hb _ => ⟨by omega, by omega⟩)
  have hS0 : SetAt (fun b => b ≠ w2.heap.size ∧ b ≠ w2.heap.size + 1) w2 u y := hSy.weaken (fun b hb _ => ⟨by omega, by omega⟩)
  have hT0 : Hid (TB w4 w2.heap.size (w2.heap.size + 1) n g D u y) := hid ⟨k11.out.below b4, k12.out.below b4, ⟨by omega, by omega, by omega⟩, Nat.lt_of_lt_of_le hgl (Nat.le_trans bA.out.size b4.size), (hB0.below bA.out).below b4, (hS0.below bA.out).below b4⟩
  have hI0 : Hid (SI w w4 sa n sc v w2.heap.size (w2.heap.size + 1) u.fa u.fn x.files) := hid ⟨A0.out, (hF0.below bA.out).below b4, ⟨by omega, by omega⟩⟩
  have hxR := hid hx.right
  replace hx := hid hx
  replace hh := hid hh
  have p1 := hT0.out.x.cell 1
  simp at p1
  clear hA hd hps hsn hyf hyes k11 k12 bA b4 hF0 hB0 hS0 hO hSy A0 hz1 hg hgl
  obtain ⟨m, hmq, hm20, hmin⟩ : ∃ m : Nat, m ≤ qn ∧ m ≤ 20 ∧ min (qn : Int) 20 = (m : Int) := ⟨min qn 20, by omega, by omega, by omega⟩
  have hmc : m ≤ qc := by omega
  have hmx : (m : Int) ≤ 9223372036854775807 := by omega
  generalize hfn : u.fn = fn at *
  generalize hfa : u.fa = fa at *
  generalize hfc : u.fc = fc at *
  generalize hbb : w2.heap.size = b11 at *
  clear hfn hfa hfc hbb
  go_wp2_with fail
  go_loopw [56] (fun v' wr => ∃ (i g : Nat) (u' : SetV) (C : Nat → Blk) (y' : SetE), i ≤ m ∧ v' = .int .i64 i ∧ SI w wr sa n sc v b11 (b11 + 1) fa fn x.files ∧ TB wr b11 (b11 + 1) n g C u' y' ∧ SnapInv n key B x nm C y' (999006 + 48 * (i : Int))) (fun v' _ => m - (Go.RowKit.intOf v').toNat)
  case atStart => exact ⟨0, g, u, D, y, Nat.zero_le _, rfl, hI0.out, hT0.out, by simpa using hI.out⟩
  case round =>
    obtain ⟨i, g2, u2, C, y2, him, rfl, hSI, hTB, hInv⟩ := hrel
    clear hI0 hT0 hI p1
    by_cases hlt : i < m
    · obtain ⟨qb, qo, rfl⟩ : ∃ b off, qa = some ⟨b, off, none⟩ := by
        obtain ⟨b, off, e, _⟩ := hq.out.2 (by omega)
        exact ⟨b, off, e⟩
      obtain ⟨ba, bn, bc, hAk⟩ := (hq.out.below hSI.ab.bel).ask (i := i) (by omega)
      generalize ql.getD i AskE.zero = a at *
      have c0 := hAk.c0
      have c1 := hAk.c1
      have c2 := hAk.c2
      have c3 := hAk.c3
      have c4 := hAk.c4
      have c5 := hAk.c5
      have c6 := hAk.c6
      have bK := hid (below_alloc wr (.cells #[.int .i64 a.kind, .string a.set, .string a.file, .string a.to, .int .i64 a.pos, .int .i64 a.num, .slice ba bn bc] 36))
      have hby := hid (hAk.bytes.below bK.out)
      have hao := hid hAk.ok
      have s0 := hTB.s.cell 0
      have t0 := hTB.s.frozen 0
      have x0' := hTB.x.cell 0
      have x1' := hTB.x.cell 1
      have x2' := hTB.x.cell 2
      have u0 := hTB.x.frozen 0
      have u1 := hTB.x.frozen 1
      have u2' := hTB.x.frozen 2
      simp at s0 x0' x1' x2'
      have l1 := hTB.s.lt
      have l3 := hTB.x.lt
      replace hSI := hid hSI
      replace hTB := hid hTB
      replace hInv := hid hInv
      clear hAk
      by_cases h8 : a.kind = 8
      · have h8' : (a.kind == 8) = true := by simp [h8]
        by_cases ht : a.to = nm
        · have hTK := hid (hTB.out.below bK.out)
          have hSK := hid (hSI.out.below bK.out)
          rw [ht] at c3
          replace h8 := hid h8
          clear s0 t0 x0' x1' x2' u0 u1 u2'
          go_wp2_with fail
          go_roundw
          case rel => exact ⟨i + 1, g2, u2, C, y2, by omega, by go_num, by rw [← ht]; exact hSK.out, by rw [← ht]; exact hTK.out, hInv.out.mono (by omega)⟩
          case measure => simp [Go.RowKit.intOf]; omega
        · have ht' : (a.to == nm) = false := byt_ne ht
          have ht2 : (a.to.toList == nm.toList) = false := (beq_toListBytes a.to nm).symm.trans ht'
          have hnot : Hid (¬ (a.kind = 8 ∧ a.to = nm)) := hid (fun f => ht f.2)
          replace h8 := hid h8
          replace ht := hid ht
          have hTK := hid (hTB.out.below bK.out)
          have hSK := hid (hSI.out.below bK.out)
          have cK := hid (cellsAt_alloc wr #[.int .i64 a.kind, .string a.set, .string a.file, .string a.to, .int .i64 a.pos, .int .i64 a.num, .slice ba bn bc] 36)
          go_wp2_with fail
          clear c0 c1 c2 c3 c4 c5 c6 s0 t0 x0' x1' x2' u0 u1 u2' l1 l3
          generalize wr.alloc (.cells #[.int .i64 a.kind, .string a.set, .string a.file, .string a.to, .int .i64 a.pos, .int .i64 a.num, .slice ba bn bc] 36) = wK at *
          refine (do_any (fun b => b ≠ b11 ∧ b ≠ b11 + 1) (some ⟨g2, 0, none⟩) n n C key u2 y2 a ba bn bc (999006 + 48 * (i : Int)) wK hTK.out.store hTK.out.set hby.out hao.out (by omega) hInv.out.few (by have := left_le a; omega)).mono ?_
          rintro e w5 hD
          obtain ⟨ga, gn, gc, u3, e3, rfl, bD, hno, hyes⟩ := hD.uni2
          have bA := below_two w5 (.cells #[.slice ga gn gc] 24) (.cells #[.string u3.name, .slice u3.fa u3.fn u3.fc, .slice u3.sa u3.sn u3.sc] 28)
          have k17 : CellsAt _ w5.heap.size #[.slice ga gn gc] 24 := (cellsAt_alloc w5 _ _).below (below_alloc _ (.cells #[.string u3.name, .slice u3.fa u3.fn u3.fc, .slice u3.sa u3.sn u3.sc] 28))
          have k18 := cellsAt_alloc2 w5 (.cells #[.slice ga gn gc] 24) #[.string u3.name, .slice u3.fa u3.fn u3.fc, .slice u3.sa u3.sn u3.sc] 28
          replace k17 := hid k17
          replace k18 := hid k18
          by_cases h3 : e3 = 0
          case neg =>
            have h3' : (e3 == 0) = false := by simp [h3]
            have hTF := hid ((hTK.out.below bD).below bA)
            have hSF := hid ((hSK.out.below bD).below bA)
            clear bD bA hD hno hyes k17 k18 cK
            go_wp2_with fail
            go_roundw
            case rel => exact ⟨i + 1, g2, u2, C, y2, by omega, by go_num, hSF.out, hTF.out, hInv.out.mono (by omega)⟩
            case measure => simp [Go.RowKit.intOf]; omega
          subst h3
          obtain ⟨hgn, hgc, g3, D3, z, rfl, _, _, hd, hg3, hO3, hS3⟩ := hyes rfl
          obtain rfl := hgn.symm
          obtain rfl := hgc.symm
          have hA := hd.after hInv.out.ok hInv.out.held hby.out.bytesAt.2.1 hInv.out.few (by have := left_le a; omega)
          have hInv' := hid (hInv.out.step hA.1 (hd.snap hInv.out.ok.shape hInv.out.snap hnot.out) (d := 999006 + 48 * ((i : Int) + 1)) (fun k hk => by have := hA.2 k hk; have := left_le a; omega))
          obtain ⟨hT5, on5⟩ := hTK.out.put (Below.tr bD bA) hg3 (hO3.below bA) (hS3.below bA)
          have hS5 := hid (SI.only ((hSK.out.below bD).below bA) on5)
          have hTA := (hTK.out.below bD).below bA
          have s0 := hTA.s.cell 0
          have t0 := hTA.s.frozen 0
          have x0' := hTA.x.cell 0
          have x1' := hTA.x.cell 1
          have x2' := hTA.x.cell 2
          have u0 := hTA.x.frozen 0
          have u1 := hTA.x.frozen 1
          have u2' := hTA.x.frozen 2
          simp at s0 x0' x1' x2'
          have l1 := hTA.s.lt
          have l3 := hTA.x.lt
          have hs5 := Nat.le_refl w5.heap.size
          have hTl := (hTK.out.below bD)
          have m1 := Nat.ne_of_lt hTl.s.lt
          have m3 := Nat.ne_of_lt hTl.x.lt
          have m2 : b11 ≠ w5.heap.size + 1 := by have := hTl.s.lt; omega
          have m4 : b11 + 1 ≠ w5.heap.size + 1 := by have := hTl.x.lt; omega
          have m5 : b11 ≠ w5.heap.size := m1
          have m1' := m1.symm
          have m2' := m2.symm
          have m3' := m3.symm
          have m4' := m4.symm
          replace hT5 := hid hT5
          clear hA hd hO3 hS3 on5 bD bA hD hno hyes hTA hTl cK
          go_upto_region 13 with fail
          generalize (w5.alloc (.cells #[.slice (some ⟨g3, 0, none⟩) n n] 24)).alloc (.cells #[.string u3.name, .slice u3.fa u3.fn u3.fc, .slice u3.sa u3.sn u3.sc] 28) = wA at *
          have r0 := k17.out.cell 0
          have r1 := k18.out.cell 0
          have r2 := k18.out.cell 1
          have r3 := k18.out.cell 2
          simp at r0 r1 r2 r3
          go_region_held3 (fun w' => w'.cell? ⟨w5.heap.size, 0, none⟩ = some (.slice (some ⟨g3, 0, none⟩) n n) ∧ w'.cell? ⟨w5.heap.size + 1, 0, none⟩ = some (.string u3.name) ∧ w'.cell? ⟨w5.heap.size + 1, 1, none⟩ = some (.slice u3.fa u3.fn u3.fc) ∧ w'.cell? ⟨w5.heap.size + 1, 2, none⟩ = some (.slice u3.sa u3.sn u3.sc)) (first | go_keep | assumption) (first | fail)
          all_goals (
            clear s0 t0 x0' x1' x2' u0 u1 u2'
            clear r0 r1 r2 r3
            go_wp2_with fail
            go_roundw
            case rel => first
              | exact ⟨i + 1, g3, u3, D3, z, by omega, by go_num, hS5.out, hT5.out, hInv'.out⟩
              | exact ⟨i + 1, g3, u3, D3, z, by omega, by go_num, hS5.out.below (below_drew _ _), hT5.out.below (below_drew _ _), hInv'.out⟩
            case measure => simp [Go.RowKit.intOf]; omega)
      · have h8' : (a.kind == 8) = false := by simp [h8]
        have hnot : Hid (¬ (a.kind = 8 ∧ a.to = nm)) := hid (fun f => h8 f.1)
        replace h8 := hid h8
        have hTK := hid (hTB.out.below bK.out)
        have hSK := hid (hSI.out.below bK.out)
        have cK := hid (cellsAt_alloc wr #[.int .i64 a.kind, .string a.set, .string a.file, .string a.to, .int .i64 a.pos, .int .i64 a.num, .slice ba bn bc] 36)
        go_wp2_with fail
        clear c0 c1 c2 c3 c4 c5 c6 s0 t0 x0' x1' x2' u0 u1 u2' l1 l3
        generalize wr.alloc (.cells #[.int .i64 a.kind, .string a.set, .string a.file, .string a.to, .int .i64 a.pos, .int .i64 a.num, .slice ba bn bc] 36) = wK at *
        refine (do_any (fun b => b ≠ b11 ∧ b ≠ b11 + 1) (some ⟨g2, 0, none⟩) n n C key u2 y2 a ba bn bc (999006 + 48 * (i : Int)) wK hTK.out.store hTK.out.set hby.out hao.out (by omega) hInv.out.few (by have := left_le a; omega)).mono ?_
        rintro e w5 hD
        obtain ⟨ga, gn, gc, u3, e3, rfl, bD, hno, hyes⟩ := hD.uni2
        have bA := below_two w5 (.cells #[.slice ga gn gc] 24) (.cells #[.string u3.name, .slice u3.fa u3.fn u3.fc, .slice u3.sa u3.sn u3.sc] 28)
        have k17 : CellsAt _ w5.heap.size #[.slice ga gn gc] 24 := (cellsAt_alloc w5 _ _).below (below_alloc _ (.cells #[.string u3.name, .slice u3.fa u3.fn u3.fc, .slice u3.sa u3.sn u3.sc] 28))
        have k18 := cellsAt_alloc2 w5 (.cells #[.slice ga gn gc] 24) #[.string u3.name, .slice u3.fa u3.fn u3.fc, .slice u3.sa u3.sn u3.sc] 28
        replace k17 := hid k17
        replace k18 := hid k18
        by_cases h3 : e3 = 0
        case neg =>
          have h3' : (e3 == 0) = false := by simp [h3]
          have hTF := hid ((hTK.out.below bD).below bA)
          have hSF := hid ((hSK.out.below bD).below bA)
          clear bD bA hD hno hyes k17 k18 cK
          go_wp2_with fail
          go_roundw
          case rel => exact ⟨i + 1, g2, u2, C, y2, by omega, by go_num, hSF.out, hTF.out, hInv.out.mono (by omega)⟩
          case measure => simp [Go.RowKit.intOf]; omega
        subst h3
        obtain ⟨hgn, hgc, g3, D3, z, rfl, _, _, hd, hg3, hO3, hS3⟩ := hyes rfl
        obtain rfl := hgn.symm
        obtain rfl := hgc.symm
        have hA := hd.after hInv.out.ok hInv.out.held hby.out.bytesAt.2.1 hInv.out.few (by have := left_le a; omega)
        have hInv' := hid (hInv.out.step hA.1 (hd.snap hInv.out.ok.shape hInv.out.snap hnot.out) (d := 999006 + 48 * ((i : Int) + 1)) (fun k hk => by have := hA.2 k hk; have := left_le a; omega))
        obtain ⟨hT5, on5⟩ := hTK.out.put (Below.tr bD bA) hg3 (hO3.below bA) (hS3.below bA)
        have hS5 := hid (SI.only ((hSK.out.below bD).below bA) on5)
        have hTA := (hTK.out.below bD).below bA
        have s0 := hTA.s.cell 0
        have t0 := hTA.s.frozen 0
        have x0' := hTA.x.cell 0
        have x1' := hTA.x.cell 1
        have x2' := hTA.x.cell 2
        have u0 := hTA.x.frozen 0
        have u1 := hTA.x.frozen 1
        have u2' := hTA.x.frozen 2
        simp at s0 x0' x1' x2'
        have l1 := hTA.s.lt
        have l3 := hTA.x.lt
        have hs5 := Nat.le_refl w5.heap.size
        have hTl := (hTK.out.below bD)
        have m1 := Nat.ne_of_lt hTl.s.lt
        have m3 := Nat.ne_of_lt hTl.x.lt
        have m2 : b11 ≠ w5.heap.size + 1 := by have := hTl.s.lt; omega
        have m4 : b11 + 1 ≠ w5.heap.size + 1 := by have := hTl.x.lt; omega
        have m5 : b11 ≠ w5.heap.size := m1
        have m1' := m1.symm
        have m2' := m2.symm
        have m3' := m3.symm
        have m4' := m4.symm
        replace hT5 := hid hT5
        clear hA hd hO3 hS3 on5 bD bA hD hno hyes hTA hTl cK
        go_upto_region 13 with fail
        generalize (w5.alloc (.cells #[.slice (some ⟨g3, 0, none⟩) n n] 24)).alloc (.cells #[.string u3.name, .slice u3.fa u3.fn u3.fc, .slice u3.sa u3.sn u3.sc] 28) = wA at *
        have r0 := k17.out.cell 0
        have r1 := k18.out.cell 0
        have r2 := k18.out.cell 1
        have r3 := k18.out.cell 2
        simp at r0 r1 r2 r3
        go_region_held3 (fun w' => w'.cell? ⟨w5.heap.size, 0, none⟩ = some (.slice (some ⟨g3, 0, none⟩) n n) ∧ w'.cell? ⟨w5.heap.size + 1, 0, none⟩ = some (.string u3.name) ∧ w'.cell? ⟨w5.heap.size + 1, 1, none⟩ = some (.slice u3.fa u3.fn u3.fc) ∧ w'.cell? ⟨w5.heap.size + 1, 2, none⟩ = some (.slice u3.sa u3.sn u3.sc)) (first | go_keep | assumption) (first | fail)
        all_goals (
          clear s0 t0 x0' x1' x2' u0 u1 u2'
          clear r0 r1 r2 r3
          go_wp2_with fail
          go_roundw
          case rel => first
            | exact ⟨i + 1, g3, u3, D3, z, by omega, by go_num, hS5.out, hT5.out, hInv'.out⟩
            | exact ⟨i + 1, g3, u3, D3, z, by omega, by go_num, hS5.out.below (below_drew _ _), hT5.out.below (below_drew _ _), hInv'.out⟩
          case measure => simp [Go.RowKit.intOf]; omega)
    · obtain rfl : i = m := by omega
      replace hSI := hid hSI
      replace hTB := hid hTB
      replace hInv := hid hInv
      have s0 := hTB.out.s.cell 0
      have t0 := hTB.out.s.frozen 0
      have x0' := hTB.out.x.cell 0
      have x1' := hTB.out.x.cell 1
      have x2' := hTB.out.x.cell 2
      have u0 := hTB.out.x.frozen 0
      have u1 := hTB.out.x.frozen 1
      have u2' := hTB.out.x.frozen 2
      simp at s0 x0' x1' x2'
      go_wp2_with fail
      refine (setCheck_any (fun b => b ≠ b11 ∧ b ≠ b11 + 1) (some ⟨g2, 0, none⟩) n n C key u2 y2 wr hTB.out.store hTB.out.set).mono ?_
      rintro e w5 ⟨⟨e5, rfl, he⟩, b5⟩
      obtain rfl : e5 = 0 := he.2 hInv.out.ok
      replace hTB := hid (hTB.out.below b5)
      replace hSI := hid (hSI.out.below b5)
      clear s0 t0 x0' x1' x2' u0 u1 u2' he b5
      have s0 := hTB.out.s.cell 0
      have t0 := hTB.out.s.frozen 0
      have x0' := hTB.out.x.cell 0
      have x1' := hTB.out.x.cell 1
      have x2' := hTB.out.x.cell 2
      have u0 := hTB.out.x.frozen 0
      have u1 := hTB.out.x.frozen 1
      have u2' := hTB.out.x.frozen 2
      simp at s0 x0' x1' x2'
      go_wp2_with fail
      refine (held_any (fun b => b ≠ b11 ∧ b ≠ b11 + 1) (some ⟨g2, 0, none⟩) n n C key u2 y2 w5 hTB.out.store hTB.out.set hInv.out.ok).mono ?_
      rintro e w6 ⟨⟨e6, rfl, he⟩, b6⟩
      obtain rfl : e6 = 0 := he.2 hInv.out.held
      replace hTB := hid (hTB.out.below b6)
      replace hSI := hid (hSI.out.below b6)
      clear s0 t0 x0' x1' x2' u0 u1 u2' he b6
      have s0 := hTB.out.s.cell 0
      have t0 := hTB.out.s.frozen 0
      have x0' := hTB.out.x.cell 0
      have x1' := hTB.out.x.cell 1
      have x2' := hTB.out.x.cell 2
      have u0 := hTB.out.x.frozen 0
      have u1 := hTB.out.x.frozen 1
      have u2' := hTB.out.x.frozen 2
      simp at s0 x0' x1' x2'
      go_wp2_with fail
      refine (do_any (fun b => b ≠ b11 ∧ b ≠ b11 + 1) (some ⟨g2, 0, none⟩) n n C key u2 y2 (aBack nm) none 0 0 (999006 + 48 * (i : Int)) w6 hTB.out.store hTB.out.set (nums_nil _) (ok_back h1) (by omega) hInv.out.few (by rw [more_back]; omega)).mono ?_
      rintro e w7 hD
      obtain ⟨ga, gn, gc, u3, e3, rfl, bD, hno, hyes⟩ := hD.uni2
      have he3 : e3 = 0 := Classical.byContradiction fun h => (hno h hInv.out.ok hInv.out.held).2.2.2.2 rfl ⟨hin.out, ⟨nm, x.files⟩, hInv.out.snap, rfl⟩
      subst he3
      obtain ⟨hgn, hgc, g3, D3, z, rfl, _, _, hd, hg3, hO3, hS3⟩ := hyes rfl
      obtain rfl := hgn.symm
      obtain rfl := hgc.symm
      have hA := hd.after hInv.out.ok hInv.out.held bytes_nil hInv.out.few (by rw [more_back]; omega)
      obtain ⟨hzf, hzs⟩ := back_files (s := ⟨nm, x.files⟩) hInv.out.ok.shape hInv.out.snap rfl (plain_back (hd.plain (by simp) (by simp)).1 rfl).2
      have hfD : Hid (∀ e ∈ x.files, FileOk n D3 key e.root e.size ∧ fileL key (leafAt D3 3 e.root) = fileL key (leafAt B 3 e.root)) := hid (fun e he => ⟨hA.1.ok.ents e (List.mem_append_left _ (by rw [hzf]; exact he)), (hA.1.same e (List.mem_append_right _ (List.mem_flatMap.2 ⟨_, hInv.out.snap, he⟩)) (List.mem_append_left _ (by rw [hzf]; exact he))).trans (hInv.out.same e he)⟩)
      have hmv := hid (hInv.out.moved.trans hA.1.moved)
      have hzok := hid hA.1.ok
      have hzh := hid hA.1.held
      obtain ⟨hT7, on7⟩ := hTB.out.put bD hg3 hO3 hS3
      have hS7 := hid (SI.only (hSI.out.below bD) on7)
      have hTA := hTB.out.below bD
      clear s0 t0 x0' x1' x2' u0 u1 u2'
      have s0 := hTA.s.cell 0
      have t0 := hTA.s.frozen 0
      have x0' := hTA.x.cell 0
      have x1' := hTA.x.cell 1
      have x2' := hTA.x.cell 2
      have u0 := hTA.x.frozen 0
      have u1 := hTA.x.frozen 1
      have u2' := hTA.x.frozen 2
      simp at s0 x0' x1' x2'
      have hEz := hT7.set.files
      rw [hzf] at hEz
      have hu6 : u3.fn ≤ 6 := by rw [← hEz.1]; exact hx6
      replace hT7 := hid hT7
      replace hEz := hid hEz
      have hzf' := hid hzf
      clear hA hd hO3 hS3 on7 bD hD hno hyes hTA hzs hTB hSI hInv hzf
      go_wp2_with fail
      clear s0 t0 x0' x1' x2' u0 u1 u2'
      generalize (((w7.setCell ⟨b11, 0, none⟩ (.slice (some ⟨g3, 0, none⟩) n n)).setCell ⟨b11 + 1, 0, none⟩ (.string u3.name)).setCell ⟨b11 + 1, 1, none⟩ (.slice u3.fa u3.fn u3.fc)).setCell ⟨b11 + 1, 2, none⟩ (.slice u3.sa u3.sn u3.sc) = w8 at *
      refine (equalE_same (fun b => b ≠ b11 ∧ b ≠ b11 + 1) (fun b => b ≠ b11 ∧ b ≠ b11 + 1) u3.fa fa u3.fn u3.fc fn fc x.files w8 hu6 hEz.out hS7.out.files).mono ?_
      rintro e w9 ⟨rfl, b9⟩
      replace hT7 := hid (hT7.out.below b9)
      replace hS7 := hid (hS7.out.below b9)
      have hf6 : fn ≤ 6 := by omega
      clear b9 hEz
      go_wp2_with fail
      go_loopw [115] (fun v' wr => ∃ j : Nat, j ≤ fn ∧ v' = .int .i64 j ∧ SI w wr sa n sc v b11 (b11 + 1) fa fn x.files ∧ TB wr b11 (b11 + 1) n g3 D3 u3 z) (fun v' _ => fn - (Go.RowKit.intOf v').toNat)
      case atStart => exact ⟨0, Nat.zero_le _, rfl, hS7.out, hT7.out⟩
      case round =>
        obtain ⟨j, hjn, rfl, hSI, hTB⟩ := hrel
        clear hS7 hT7
        rename_i wr
        by_cases hjl : j < fn
        · obtain ⟨fb, fo, rfl⟩ : ∃ b off, fa = some ⟨b, off, none⟩ := by
            obtain ⟨b, off, e, _⟩ := hSI.files.2.2 (by omega)
            exact ⟨b, off, e⟩
          have hEn := hSI.files.ent hjl
          have hjx : j < x.files.length := by rw [hSI.files.1]; exact hjl
          have hmem : x.files.getD j Ent.zero ∈ x.files := by simp [List.getD, hjx]
          have hok := hx.out.files.files _ hmem
          have hokD := hfD.out _ hmem
          generalize x.files.getD j Ent.zero = f at *
          have c0 := hEn.c0
          have c1 := hEn.c1
          have c2 := hEn.c2
          have s0 := hSI.ab.s.cell 0
          have lS := hSI.ab.s.lt
          simp at s0
          have hj0 : (0 : Int) ≤ (j : Int) := by omega
          have hj1 : (j : Int) < (fn : Int) := by omega
          have bK := below_alloc wr (.cells #[.string f.name, .int .i64 f.root, .int .i64 f.size] 44)
          have kE := hid (cellsAt_alloc wr #[.string f.name, .int .i64 f.root, .int .i64 f.size] 44)
          have hSK := hid (hSI.below bK)
          have hTK := hid (hTB.below bK)
          replace hok := hid hok
          replace hokD := hid hokD
          clear hEn hjx hmem bK hSI hTB
          go_wp2_with fail
          clear c0 c1 c2 s0 lS
          generalize hWK : wr.alloc (.cells #[.string f.name, .int .i64 f.root, .int .i64 f.size] 44) = wK at *
          replace hWK := hid hWK
          refine (fileRead_any sa n sc B key f.root f.size 0 256 wK (hs.out.below hSK.out.ab.bel)).mono ?_
          rintro e w10 ⟨hR, b10⟩
          rcases hR with ⟨e', _, _, hno⟩ | ⟨ra, rn, rc, rfl, _, _, hN1⟩
          · exact absurd ⟨hok.out, by omega, by omega⟩ hno
          replace hSK := hid (hSK.out.below b10)
          replace hTK := hid (hTK.out.below b10)
          replace kE := hid (kE.out.below b10)
          have s0 := hTK.out.s.cell 0
          have e1 := kE.out.cell 1
          have e2 := kE.out.cell 2
          simp at s0 e1 e2
          replace hN1 := hid hN1
          clear b10
          go_wp2_with fail
          refine (fileRead_any (some ⟨g3, 0, none⟩) n n D3 key f.root f.size 0 256 w10 hTK.out.store).mono ?_
          rintro e w11 ⟨hR, b11'⟩
          rcases hR with ⟨e', _, _, hno⟩ | ⟨ta, tn, tc, rfl, _, _, hN2⟩
          · exact absurd ⟨hokD.out.1, by omega, by omega⟩ hno
          rw [hokD.out.2] at hN2
          replace hSK := hid (hSK.out.below b11')
          replace hTK := hid (hTK.out.below b11')
          replace hN1 := hid (hN1.out.below b11')
          replace hN2 := hid hN2
          clear s0 e1 e2 b11' kE hWK hok hokD
          go_wp2_with fail
          refine (bytesEqual_same ra ta rn rc tn tc _ _ _ w11 hN1.out hN2.out).mono ?_
          rintro e w12 ⟨rfl, rfl⟩
          clear hN1 hN2
          go_wp2_with fail
          go_roundw
          case rel => exact ⟨j + 1, by omega, by go_num, hSK.out, hTK.out⟩
          case measure => simp [Go.RowKit.intOf]; omega
        · obtain rfl : j = fn := by omega
          replace hSI := hid hSI
          replace hTB := hid hTB
          have s0 := hTB.out.s.cell 0
          have t0 := hTB.out.s.frozen 0
          have x0' := hTB.out.x.cell 0
          have x1' := hTB.out.x.cell 1
          have x2' := hTB.out.x.cell 2
          have u0 := hTB.out.x.frozen 0
          have u1 := hTB.out.x.frozen 1
          have u2' := hTB.out.x.frozen 2
          simp at s0 x0' x1' x2'
          go_wp2_with fail
          refine (destroy_ok (fun b => b ≠ b11 ∧ b ≠ b11 + 1) (some ⟨g3, 0, none⟩) n n D3 key u3 z wr hTB.out.store hTB.out.set hzok.out hzh.out).mono ?_
          rintro e w10 ⟨⟨g4, D4, rfl, hR4, hF4, hS4⟩, b10⟩
          have bA := below_alloc w10 (.cells #[.slice (some ⟨g4, 0, none⟩) n n] 24)
          have k26 := hid (cellsAt_alloc w10 #[.slice (some ⟨g4, 0, none⟩) n n] 24)
          replace hSI := hid ((hSI.out.below b10).below bA)
          replace hS4 := hid (hS4.below bA)
          clear s0 t0 x0' x1' x2' u0 u1 u2'
          have v0 := hSI.out.ab.s.cell 0
          have y0' := hSI.out.ab.x.cell 0
          have y1' := hSI.out.ab.x.cell 1
          have y2' := hSI.out.ab.x.cell 2
          simp only [List.getElem?_toArray, List.getElem?_cons_zero, List.getElem?_cons_succ] at v0 y0' y1' y2'
          clear b10 bA hTB
          go_upto_region 29 with fail
          generalize w10.alloc (.cells #[.slice (some ⟨g4, 0, none⟩) n n] 24) = w11 at *
          go_wp2_with fail
          refine (destroy_ok (fun _ => True) sa n sc B key v x w11 (hs.out.below hSI.out.ab.bel) (hX.out.below hSI.out.ab.bel) hx.out hh.out).mono ?_
          rintro e w12 ⟨⟨g5, D5, rfl, hR5, hF5, hS5⟩, b12'⟩
          have hsame := destroyed_same hxR.out hmv.out hR5 hF5 hR4 hF4
          have bB := below_alloc w12 (.cells #[.slice (some ⟨g5, 0, none⟩) n n] 24)
          have k27 := hid (cellsAt_alloc w12 #[.slice (some ⟨g5, 0, none⟩) n n] 24)
          replace k26 := hid ((k26.out.below b12').below bB)
          replace hS4 := hid (((store_congr hS4.out hsame).below b12').below bB)
          replace hS5 := hid (hS5.below bB)
          replace hSI := hid ((hSI.out.below b12').below bB)
          have hl5 := hid (right_lens hR5)
          have hn5 := hR5.small
          clear v0 y0' y1' y2' b12' bB hR4 hF4 hR5 hF5 hsame
          go_upto_region 30 with fail
          generalize w12.alloc (.cells #[.slice (some ⟨g5, 0, none⟩) n n] 24) = w13 at *
          have r6 := k26.out.cell 0
          have r7 := k27.out.cell 0
          simp at r6 r7
          go_wp2_with fail
          refine (storeSame_true (some ⟨g5, 0, none⟩) (some ⟨g4, 0, none⟩) n n n D5 w13 hn5 hl5.out hS5.out hS4.out).mono ?_
          rintro e w14 ⟨rfl, b14⟩
          replace hSI := hid (hSI.out.below b14)
          clear r6 r7 b14
          go_wp2_with fail
          go_ret
          exact ⟨rfl, hSI.out.ab.bel⟩
end Go.Proofs.YthnhdojppfedmaaGreat
