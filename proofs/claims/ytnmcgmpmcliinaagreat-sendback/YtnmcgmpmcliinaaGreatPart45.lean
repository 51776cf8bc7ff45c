/-
  SendBackWalk, OpenS, OpenT, OpenX in one text. Nothing here is trusted.
-/
import Derived.Test.YtnmcgmpmcliinaaGreatPart42
import Derived.Test.YtnmcgmpmcliinaaGreatPart43
import Derived.Test.YtnmcgmpmcliinaaGreatPart44
import Derived.Test.YtnmcgmpmcliinaaGreatPart01
import Derived.WalkKit
import Derived.ProofKit
import Derived.OpenShut
import Derived.Deep.Slices
import Derived.Lib.SmallJoins
import Derived.Test.YtnmcgmpmcliinaaGreatPart14
import Derived.Deep.Strs
set_option linter.unusedVariables false
namespace Go.Proofs.YtnmcgmpmcliinaaGreat
open Go.RowKit

theorem Std.start {n : Nat} {key : Int} {B D : Nat → Blk} {x z : SetE} (hx : SetOk n B key x) (h : Std n key B x D z) : Std n key B x B x := by
  refine ⟨nxt_refl hx (fun k hk => ?_), h.base⟩
  have h1 := h.nxt.moved.out k hk
  have h2 := h.nxt.held k hk
  have e : rootsX z = rootsE z.files ++ rootsS x.snaps := by unfold rootsX; rw [h.nxt.snaps]
  rw [e] at h2
  unfold rootsX
  simp only [List.count_append] at h2 ⊢
  omega

set_option maxHeartbeats 16000000 in
set_option maxRecDepth 100000 in
theorem sendBack_walk (sa : Option Addr) (n sc : Nat) (B : Nat → Blk) (key : Int) (v : SetV) (x : SetE) (u : SetV) (y : SetE) (w : World) (hnm : n ≤ 9223372036854775807) (hs : StoreAt w sa n B) (hX : SetAt (fun _ => True) w v x) (hY : SetAt (fun _ => True) w u y) :
    Calls Tryz.prog 5 #[.agg #[.slice sa n sc], .int .i64 key, v.val, u.val] w fun e w' => e = .returned (.bool true) ∧ Below w.heap.size w w' := by
  have b0 := below_three w (.cells #[.slice sa n sc] 24) (.cells #[.string v.name, .slice v.fa v.fn v.fc, .slice v.sa v.sn v.sc] 47) (.cells #[.string u.name, .slice u.fa u.fn u.fc, .slice u.sa u.sn u.sc] 47)
  have k0 : CellsAt _ w.heap.size #[.slice sa n sc] 24 := ((cellsAt_alloc w _ _).below (below_alloc _ (.cells #[.string v.name, .slice v.fa v.fn v.fc, .slice v.sa v.sn v.sc] 47))).below (below_alloc _ (.cells #[.string u.name, .slice u.fa u.fn u.fc, .slice u.sa u.sn u.sc] 47))
  have k1 := (cellsAt_alloc2 w (.cells #[.slice sa n sc] 24) #[.string v.name, .slice v.fa v.fn v.fc, .slice v.sa v.sn v.sc] 47).below (below_alloc _ (.cells #[.string u.name, .slice u.fa u.fn u.fc, .slice u.sa u.sn u.sc] 47))
  have k2 := cellsAt_alloc ((w.alloc (.cells #[.slice sa n sc] 24)).alloc (.cells #[.string v.name, .slice v.fa v.fn v.fc, .slice v.sa v.sn v.sc] 47)) #[.string u.name, .slice u.fa u.fn u.fc, .slice u.sa u.sn u.sc] 47
  simp only [sz_alloc'] at k2
  have hby := hid (sto_bytes hs)
  replace hs := hid (hs.below b0)
  replace hX := hid (hX.below b0)
  replace hY := hid (hY.below b0)
  replace b0 := hid b0
  replace k0 := hid k0
  replace k1 := hid k1
  replace k2 := hid k2
  unfold SetV.val
  go_enter Tryz.func5, Tryz.ntmps5
  go_wp2_with fail
  generalize ((w.alloc (.cells #[.slice sa n sc] 24)).alloc (.cells #[.string v.name, .slice v.fa v.fn v.fc, .slice v.sa v.sn v.sc] 47)).alloc (.cells #[.string u.name, .slice u.fa u.fn u.fc, .slice u.sa u.sn u.sc] 47) = w0 at *
  refine (crowded_any sa n sc B w0 hnm hs.out).mono ?_
  rintro e w1 ⟨⟨t, rfl, hcr⟩, b1⟩
  cases t
  case true =>
    clear hcr
    go_wp2_with fail
    go_ret
    exact ⟨rfl, Below.tr b0.out b1⟩
  have hc : Hid (∀ k, k < n → (B k).refs ≤ 999000) := hid (hcr rfl)
  clear hcr
  have p0 := (k0.out.below b1).cell 0
  have p1 := (k1.out.below b1).cell 0
  have p2 := (k1.out.below b1).cell 1
  have p3 := (k1.out.below b1).cell 2
  have p4 := (k2.out.below b1).cell 0
  have p5 := (k2.out.below b1).cell 1
  have p6 := (k2.out.below b1).cell 2
  simp at p0 p1 p2 p3 p4 p5 p6
  go_wp2_with fail
  clear p0 p1 p2 p3 p4 p5 p6
  refine (diff_any (fun _ => True) sa n sc B key v x u y w1 (hs.out.below b1) (hX.out.below b1) (hY.out.below b1)).mono ?_
  rintro e w2 ⟨hR, b2⟩
  have b12 := Below.tr b1 b2
  clear b1 b2
  rcases hR with ⟨e', rfl, he, hno⟩ | ⟨lv, ls, rfl, hD, hle, hokx, hoky, hl40⟩
  · have h0' : (e' == 0) = false := by simp [he]
    clear hno
    go_wp2_with fail
    refine (sent_any w2).mono ?_
    rintro e w3 ⟨rfl, b3⟩
    go_wp2_with fail
    refine (sent_any w3).mono ?_
    rintro e w4 ⟨rfl, b4⟩
    go_wp2_with fail
    go_ret
    exact ⟨rfl, Below.tr b0.out (Below.tr b12 (Below.tr b3 b4))⟩
  · obtain ⟨la, lc, hlv, _, _⟩ := hD.val
    subst hlv
    have hDa := hid hD.at
    replace hokx := hid hokx
    replace hoky := hid hoky
    replace hle := hid hle
    clear hD
    go_wp2_with fail
    refine (sent_any w2).mono ?_
    rintro e w3 ⟨rfl, b3⟩
    have b13 := Below.tr b12 b3
    replace hDa := hid (hDa.out.below b3)
    have p0 := (k0.out.below b13).cell 0
    have p1 := (k1.out.below b13).cell 0
    have p2 := (k1.out.below b13).cell 1
    have p3 := (k1.out.below b13).cell 2
    simp at p0 p1 p2 p3
    clear b12 b3
    go_wp2_with fail
    clear p0 p1 p2 p3
    refine (diff_any (fun _ => True) sa n sc B key v x v x w3 (hs.out.below b13) (hX.out.below b13) (hX.out.below b13)).mono ?_
    rintro e w4 ⟨hR, b4⟩
    have hnil := (diff_nil hokx.out hokx.out hby.out).2 (sameF_self key B x.files)
    rcases hR with ⟨e', rfl, he, hno⟩ | ⟨nv, ns, rfl, hDn, hne, _, _, _⟩
    · have := hno hokx.out hokx.out
      rw [hnil] at this
      exact absurd this (by simp)
    rw [hnil] at hne
    obtain rfl : ns = [] := by simpa using hne
    obtain ⟨na, nc, hnv, _, _⟩ := hDn.val
    subst hnv
    have b14 := Below.tr b13 b4
    replace hDa := hid (hDa.out.below b4)
    have p0 := (k0.out.below b14).cell 0
    have p1 := (k1.out.below b14).cell 0
    have p2 := (k1.out.below b14).cell 1
    have p3 := (k1.out.below b14).cell 2
    simp at p0 p1 p2 p3
    clear b13 b4 hDn hne hnil
    go_wp2_with fail
    clear p0 p1 p2 p3
    refine (apply_any (fun _ => True) sa n sc B key v x la ls.length lc ls w4 (hs.out.below b14) (hX.out.below b14) hDa.out (by omega) hc.out).mono ?_
    rintro e w5 ⟨b5, hA⟩
    rw [hle.out] at hA
    rcases hA with ⟨e', rfl, he, hwhy⟩ | ⟨g, D, uz, z, rfl, hSt, hSd, hStore, hSet⟩
    · have hcode : e' = 7 ∨ e' = 8 := by
        rcases hwhy hokx.out (by rw [← hle.out, List.length_map]; exact hl40) (fun d hd => (diff_mem hoky.out d hd).1) with h7 | hf
        · exact .inl h7
        · obtain ⟨p, a, r, D, z, h1, h2, h3, h4⟩ := hf
          exact .inr (diff_fails hokx.out hoky.out (h3.start hokx.out) ⟨p, a, r, D, z, h1, h2, h3, h4⟩)
      have bF := hid (Below.tr b0.out (Below.tr b14 (Below.tr b5 (below_two w5 (.cells #[.slice none 0 0] 24) (.cells #[.string (ByteArray.mk #[]), .slice none 0 0, .slice none 0 0] 47)))))
      clear hwhy
      rcases hcode with rfl | rfl
      · go_wp2_with fail
        go_ret
        exact ⟨rfl, bF.out⟩
      · go_wp2_with fail
        go_ret
        exact ⟨rfl, bF.out⟩
    · obtain ⟨_, hzl, hzf⟩ := diff_done hokx.out hoky.out hby.out (hSd.start hokx.out) hSt
      obtain ⟨zn, zfa, zfn, zfc, zsa, zsn, zsc⟩ := uz
      have hlz : zfn = u.fn := by
        have h1 := hSet.files.1
        have h2 := hY.out.files.1
        simp only at h1
        omega
      subst hlz
      simp only
      have bT := below_two w5 (.cells #[.slice (some ⟨g, 0, none⟩) n n] 24) (.cells #[.string zn, .slice zfa u.fn zfc, .slice zsa zsn zsc] 47)
      have kS : CellsAt _ w5.heap.size #[.slice (some ⟨g, 0, none⟩) n n] 24 := (cellsAt_alloc w5 _ _).below (below_alloc _ (.cells #[.string zn, .slice zfa u.fn zfc, .slice zsa zsn zsc] 47))
      have kZ := cellsAt_alloc2 w5 (.cells #[.slice (some ⟨g, 0, none⟩) n n] 24) #[.string zn, .slice zfa u.fn zfc, .slice zsa zsn zsc] 47
      have b16 := Below.tr b14 (Below.tr b5 bT)
      have hokz := hid hSd.nxt.ok
      replace hStore := hid (hStore.below bT)
      replace hSet := hid (hSet.below bT)
      replace hzf := hid hzf
      replace kS := hid kS
      replace kZ := hid kZ
      replace bT := hid bT
      clear hSt hSd b14 b5
      go_upto_region 12 with fail
      generalize (w5.alloc (.cells #[.slice (some ⟨g, 0, none⟩) n n] 24)).alloc (.cells #[.string zn, .slice zfa u.fn zfc, .slice zsa zsn zsc] 47) = w6 at *
      have s0 := kS.out.cell 0
      have z0 := kZ.out.cell 0
      have z1 := kZ.out.cell 1
      have z2 := kZ.out.cell 2
      have y1 := (k2.out.below b16).cell 1
      simp at s0 z0 z1 z2 y1
      go_wp2_with fail
      refine (setCheck_any (fun _ => True) (some ⟨g, 0, none⟩) n n D key ⟨zn, zfa, u.fn, zfc, zsa, zsn, zsc⟩ z w6 hStore.out hSet.out).mono ?_
      rintro e w7 ⟨⟨e7, rfl, he7⟩, b7⟩
      obtain rfl : e7 = 0 := he7.2 hokz.out
      have b17 := Below.tr b16 b7
      have y2 := (k2.out.below b17).cell 1
      simp at y2
      have hyl := hY.out.files.1
      have hzl' := hSet.out.files.1
      have hfn6 : u.fn ≤ 6 := by have := hoky.out.shape.few; omega
      replace b16 := hid b16
      clear s0 z0 z1 z2 y1 he7
      have b7' := hid b7
      have b17' := hid b17
      go_wp2_with fail
      clear y2
      go_loopw [87] (fun s wr => ∃ k : Nat, k ≤ u.fn ∧ s = .int .i64 k ∧ Below w6.heap.size w6 wr) (fun s _ => u.fn - (Go.RowKit.intOf s).toNat)
      case atStart => exact ⟨0, Nat.zero_le _, rfl, b7⟩
      case round =>
        clear b7 b17
        obtain ⟨k, hk, rfl, bw⟩ := hrel
        by_cases hlt : k < u.fn
        · have bww := Below.tr b16.out bw
          have hlu : k < u.fn := hlt
          have hEy := (hY.out.below bww).files
          have hEz := (hSet.out.below bw).files
          have hky : k < y.files.length := by omega
          have hkz : k < z.files.length := by omega
          obtain ⟨b, off, hfa, hb, _, hcy⟩ := hEy.2.2 (by omega)
          obtain ⟨b', off', hfa', hb', _, hcz⟩ := hEz.2.2 (show 0 < u.fn by omega)
          simp only at hfa'
          have hzy := hcy k hlt
          have hzz := hcz k hlu
          have hye : y.files[k]? = some (y.files.getD k Ent.zero) := by simp [List.getD, hky]
          have hze : z.files[k]? = some (z.files.getD k Ent.zero) := by simp [List.getD, hkz]
          have hfy := hid (hoky.out.ents _ (List.mem_append_left _ (hEy.getD hlt)))
          have hfz := hid (hokz.out.ents _ (List.mem_append_left _ (hEz.getD hlu)))
          have hsame := hzf.out k _ _ hye hze
          have c0 := hzy.c0
          have c1 := hzy.c1
          have c2 := hzy.c2
          have d0 := hzz.c0
          have d1 := hzz.c1
          have d2 := hzz.c2
          clear hEy hEz hcy hcz hzy hzz hye hze
          generalize y.files.getD k Ent.zero = f at *
          generalize z.files.getD k Ent.zero = q at *
          obtain ⟨en, es, eL⟩ := hsame
          rw [← en] at d0
          rw [← es] at d2
          have hW : Hid (readL (fileL key (leafAt D 3 q.root)) f.size.toNat (0 : Int).toNat (256 : Int).toNat = fileW key B f) := hid (by rw [eL]; exact read_all hfy.out)
          have hfz' : Hid (FileOk n D key q.root f.size) := hid (by rw [es]; exact hfz.out)
          clear hfz en es eL
          generalize q.root = qr at *
          have bA := below_alloc wr (.cells #[.string f.name, .int .i64 f.root, .int .i64 f.size] 62)
          have bB := below_two wr (.cells #[.string f.name, .int .i64 f.root, .int .i64 f.size] 62) (.cells #[.string f.name, .int .i64 qr, .int .i64 f.size] 62)
          have kf : CellsAt _ wr.heap.size #[.string f.name, .int .i64 f.root, .int .i64 f.size] 62 := (cellsAt_alloc wr _ _).below (below_alloc _ (.cells #[.string f.name, .int .i64 qr, .int .i64 f.size] 62))
          have kg := cellsAt_alloc2 wr (.cells #[.string f.name, .int .i64 f.root, .int .i64 f.size] 62) #[.string f.name, .int .i64 qr, .int .i64 f.size] 62
          have z1 := ((kZ.out.below bw).below bA).cell 1
          have s0 := ((k0.out.below bww).below bB).cell 0
          simp at z1 s0
          rw [hfa'] at z1
          have nb : ¬ b' = wr.heap.size := by omega
          have hlt2 : (k : Int) < (u.fn : Int) := by omega
          rw [hfa] at *
          replace hfa' := hid hfa'
          have ss := ((kS.out.below bw).below bB)
          replace kf := hid kf
          replace kg := hid kg
          have bwB := hid (Below.tr bww bB)
          have bwZ := hid (Below.tr bw bB)
          replace ss := hid ss
          replace bA := hid bA
          replace bB := hid bB
          go_wp2_with fail
          refine (fileRead_any sa n sc B key f.root f.size 0 256 _ (hs.out.below bwB.out)).mono ?_
          rintro e w8 ⟨hrd, b8⟩
          rcases hrd with ⟨e', rfl, he, hno⟩ | ⟨xa, ln, lc', rfl, _, _, hNx⟩
          · exact absurd ⟨hfy.out, by omega, by omega⟩ hno
          rw [read_all hfy.out] at hNx
          have t0 := (ss.out.below b8).cell 0
          have g1 := (kg.out.below b8).cell 1
          have g2 := (kg.out.below b8).cell 2
          simp at t0 g1 g2
          replace hNx := hid hNx
          clear s0 z1 c0 c1 c2 d0 d1 d2
          go_wp2_with fail
          refine (fileRead_any (some ⟨g, 0, none⟩) n n D key qr f.size 0 256 w8 (hStore.out.below (Below.tr bwZ.out b8))).mono ?_
          rintro e w9 ⟨hrd, b9⟩
          rcases hrd with ⟨e', rfl, he, hno⟩ | ⟨ya, yn, yc, rfl, _, _, hNy⟩
          · exact absurd ⟨hfz'.out, by omega, by omega⟩ hno
          rw [hW.out] at hNy
          have b89 := Below.tr b8 b9
          have n1 := (kf.out.below b89).cell 0
          have n2 := (kg.out.below b89).cell 0
          have n3 := (kf.out.below b89).cell 2
          have n4 := (kg.out.below b89).cell 2
          simp at n1 n2 n3 n4
          replace hNx := hid (hNx.out.below b9)
          replace hNy := hid hNy
          have bwF := hid (Below.tr bwZ.out b89)
          clear t0 g1 g2 b8 b9 b89
          go_wp2_with fail
          refine (bytesEqual_same xa ya ln lc' yn yc _ _ (fileW key B f) w9 hNx.out hNy.out).mono ?_
          rintro e w10 ⟨rfl, rfl⟩
          go_wp2_with fail
          go_roundw
          case rel => exact ⟨k + 1, by omega, by go_num, bwF.out⟩
          case measure => simp [Go.RowKit.intOf]; omega
        · obtain rfl : k = u.fn := by omega
          have bF := hid (Below.tr b0.out (Below.tr b16.out bw))
          go_wp2_with fail
          go_ret
          exact ⟨rfl, bF.out⟩
end Go.Proofs.YtnmcgmpmcliinaaGreat

namespace Go.Proofs.YtnmcgmpmcliinaaGreat
open Go.ChangeShapes Go.WideShapes Go.RowKit Go.Deep

section
variable {H : Type} {enc : TypeId × Value → H} {W : World}

theorem addr_none {W : World} {a : Addr} {v : Value} (h : W.cell? a = some v) : a = ⟨a.block, a.off, none⟩ := by
  obtain ⟨b, off, spot⟩ := a
  have hspot : spot = none := World.cell?_spot h
  subst hspot
  rfl

theorem add_none (b off i : Nat) : (⟨b, off, none⟩ : Addr).add i = ⟨b, off + i, none⟩ := by unfold Addr.add; split <;> simp_all
theorem add_zero' (a : Addr) : a.add 0 = a := by unfold Addr.add; simp

theorem nums_open {t e : TypeId} {k : IntKind} {m : Nat} {v : Value} {y : DataW H × List MemPlace} (ht : Tryz.prog.underlying t = some (.slice e)) (he : Tryz.prog.underlying e = some (.int k)) (hc : Tryz.prog.cellsOf e = 1)
    (h : DataW.trod enc Tryz.prog W 0 (fun _ => true) true m t [v] = some y) : ∃ a len cap l, v = .slice a len cap ∧ len ≤ cap ∧ cap ≤ maxLen ∧ NumsAt (fun _ => True) k W a len l := by
  rcases open_ints ht he hc h with ⟨hcs, _⟩ | ⟨x, len, cap, zs, hcs, _, hl, hm, hz, _, hcell, hwz⟩
  · exact ⟨none, 0, 0, [], by simpa using hcs, Nat.le_refl _, Nat.zero_le _, numsAt_nil _ _ _ _⟩
  · simp only [if_true] at hz
    refine ⟨some x, len, cap, zs.take len, by simpa using hcs, hl, hm, by simp; omega, fun y hy => hwz y (List.mem_of_mem_take hy), fun hp => ?_⟩
    have h0 := hcell 0 (by omega)
    rw [add_zero'] at h0
    have hx := addr_none h0
    obtain ⟨b, off, spot⟩ := x
    simp only [Addr.mk.injEq, true_and] at hx
    subst hx
    refine ⟨b, off, rfl, cell_lt h0, trivial, fun i hi => ?_⟩
    have := hcell i (by omega)
    rw [add_none] at this
    rw [this]
    simp [List.getD, hi]

set_option maxRecDepth 100000 in
theorem blk_open {m : Nat} {cs : List Value} {y : DataW H × List MemPlace} (h : DataW.trod enc Tryz.prog W 0 (fun _ => true) true m 93 cs = some y) :
    ∃ (r lv : Int) (ka : Option Addr) (kn kc : Nat) (ba : Option Addr) (bn bc : Nat) (ks bs : List Int), cs = [.int .i64 r, .int .i64 lv, .slice ka kn kc, .slice ba bn bc] ∧
      (-9223372036854775808 ≤ r ∧ r ≤ 9223372036854775807) ∧ (-9223372036854775808 ≤ lv ∧ lv ≤ 9223372036854775807) ∧ (kn ≤ kc ∧ bn ≤ bc) ∧ NumsAt (fun _ => True) .i64 W ka kn ks ∧ NumsAt (fun _ => True) .u8 W ba bn bs := by
  obtain ⟨y0, y1, y2, y3, n, _, hl, h0, h1, h2, h3⟩ := Go.Joins.trod_struct4 Tryz.underlying93 h
  have hl4 : cs.length = 4 := hl.trans (by kernel_rfl)
  match cs, hl4 with
  | [c0, c1, c2, c3], _ =>
    have e1 : Tryz.prog.cellsOf 3 = 1 := by kernel_rfl
    have e2 : Tryz.prog.cellsOf 77 = 1 := by kernel_rfl
    have e3 : Tryz.prog.cellsOf 28 = 1 := by kernel_rfl
    simp [e1, e2, e3] at h0 h1 h2 h3
    obtain ⟨r, hr, _, wr⟩ := DataW.trod_int Tryz.underlying3 h0
    obtain ⟨lv, hlv, _, wl⟩ := DataW.trod_int Tryz.underlying3 h1
    obtain ⟨ka, kn, kc, ks, rfl, hk, _, hK⟩ := nums_open Tryz.underlying77 Tryz.underlying3 (by kernel_rfl) h2
    obtain ⟨ba, bn, bc, bs, rfl, hb, _, hB⟩ := nums_open Tryz.underlying28 Tryz.underlying5 (by kernel_rfl) h3
    simp at hr hlv
    subst hr hlv
    have := bounds_i64 wr
    have := bounds_i64 wl
    exact ⟨r, lv, ka, kn, kc, ba, bn, bc, ks, bs, rfl, by omega, by omega, ⟨hk, hb⟩, hK, hB⟩

set_option maxRecDepth 100000 in
theorem store_open {r : Reach} {b0 : Nat} {v : Value} {d : DataW H} {p : List MemPlace} (hv : Value.okWide Tryz.prog W r b0 24 v) (h : DataW.Trod enc Tryz.prog W 0 (fun _ => true) true 24 v d p) :
    ∃ a n c B, v = .agg #[.slice a n c] ∧ StoreAt W a n B := by
  obtain ⟨cs, rfl, hsz⟩ := okWide_struct Tryz.underlying24 hv
  have hsz1 : cs.size = 1 := hsz.trans (by kernel_rfl)
  obtain ⟨l⟩ := cs
  match l, hsz1 with
  | [c0], _ =>
    obtain ⟨fuel, hf⟩ := h
    obtain ⟨y0, n, _, _, h0⟩ := trod_struct1 Tryz.underlying24 hf
    have e1 : Tryz.prog.cellsOf 22 = 1 := by kernel_rfl
    have e4 : Tryz.prog.cellsOf 93 = 4 := by kernel_rfl
    simp [Value.cells, e1] at h0
    rcases open_slice Tryz.underlying22 h0 with ⟨hcs, _⟩ | ⟨a, len, cap, m, n', D, Pl, hcs, _, hl, hm, hmm, _, hx⟩
    · simp at hcs
      subst hcs
      exact ⟨none, 0, 0, fun _ => Blk.zero, rfl, fun hp => absurd hp (by omega)⟩
    · simp at hcs
      subst hcs
      simp only [if_true] at hmm
      subst hmm
      have hone : ∀ i, i < len → ∃ K : Blk, ∃ ka kn kc ba bn bc, W.cell? (a.add (i * 4)) = some (.int .i64 K.refs) ∧ W.cell? ((a.add (i * 4)).add 1) = some (.int .i64 K.level) ∧ W.cell? ((a.add (i * 4)).add 2) = some (.slice ka kn kc) ∧ W.cell? ((a.add (i * 4)).add 3) = some (.slice ba bn bc) ∧
          NumsAt (fun _ => True) .i64 W ka kn K.kids ∧ NumsAt (fun _ => True) .u8 W ba bn K.bytes ∧ (-9223372036854775808 ≤ K.refs ∧ K.refs ≤ 9223372036854775807) ∧ (-9223372036854775808 ≤ K.level ∧ K.level ≤ 9223372036854775807) ∧ (kn ≤ kc ∧ bn ≤ bc) := by
        intro i hi
        obtain ⟨cs', h1, h2⟩ := hx i (by omega)
        rw [e4] at h1
        obtain ⟨r, lv, ka, kn, kc, ba, bn, bc, ks, bs, rfl, b1, b2, b3, b4, b5⟩ := blk_open h2
        obtain ⟨_, _, hc⟩ := World.cells?_some h1
        have c0 := hc 0 (by omega)
        have c1 := hc 1 (by omega)
        have c2 := hc 2 (by omega)
        have c3 := hc 3 (by omega)
        have ez : (a.add (i * 4)).add 0 = a.add (i * 4) := add_zero' _
        rw [ez] at c0
        exact ⟨⟨r, lv, ks, bs⟩, ka, kn, kc, ba, bn, bc, c0, c1, c2, c3, b4, b5, b1, b2, b3⟩
      have : Inhabited Blk := ⟨Blk.zero⟩
      obtain ⟨B, hB⟩ := choose_lt hone
      refine ⟨some a, len, m, B, rfl, fun hp => ?_⟩
      obtain ⟨_, _, _, _, _, _, h0', _⟩ := hB 0 (by omega)
      rw [Nat.zero_mul, add_zero'] at h0'
      have hx0 := addr_none h0'
      obtain ⟨b, off, spot⟩ := a
      simp only [Addr.mk.injEq, true_and] at hx0
      subst hx0
      refine ⟨b, off, rfl, cell_lt h0', fun i hi => ?_⟩
      obtain ⟨ka, kn, kc, ba, bn, bc, c0, c1, c2, c3, k1, k2, k3, k4, k5⟩ := hB i hi
      rw [add_none] at c0 c1 c2 c3
      rw [add_none] at c1 c2 c3
      exact ⟨ka, kn, kc, ba, bn, bc, c0, c1, c2, c3, k1, k2, k3, k4, k5⟩
end

end Go.Proofs.YtnmcgmpmcliinaaGreat

namespace Go.Proofs.YtnmcgmpmcliinaaGreat
open Go.ChangeShapes Go.WideShapes Go.RowKit Go.Deep

section
variable {H : Type} {enc : TypeId × Value → H} {W : World}

set_option maxRecDepth 100000 in
theorem store_open_max {r : Reach} {b0 : Nat} {v : Value} {d : DataW H} {p : List MemPlace} (hv : Value.okWide Tryz.prog W r b0 24 v) (h : DataW.Trod enc Tryz.prog W 0 (fun _ => true) true 24 v d p) :
    ∃ a n c B, n ≤ 9223372036854775807 ∧ v = .agg #[.slice a n c] ∧ StoreAt W a n B := by
  obtain ⟨cs, rfl, hsz⟩ := okWide_struct Tryz.underlying24 hv
  have hsz1 : cs.size = 1 := hsz.trans (by kernel_rfl)
  obtain ⟨l⟩ := cs
  match l, hsz1 with
  | [c0], _ =>
    obtain ⟨fuel, hf⟩ := h
    obtain ⟨y0, n, _, _, h0⟩ := trod_struct1 Tryz.underlying24 hf
    have e1 : Tryz.prog.cellsOf 22 = 1 := by kernel_rfl
    have e4 : Tryz.prog.cellsOf 93 = 4 := by kernel_rfl
    simp [Value.cells, e1] at h0
    rcases open_slice Tryz.underlying22 h0 with ⟨hcs, _⟩ | ⟨a, len, cap, m, n', D, Pl, hcs, _, hl, hm, hmm, _, hx⟩
    · simp at hcs
      subst hcs
      exact ⟨none, 0, 0, fun _ => Blk.zero, by omega, rfl, fun hp => absurd hp (by omega)⟩
    · simp at hcs
      subst hcs
      simp only [if_true] at hmm
      subst hmm
      have hone : ∀ i, i < len → ∃ K : Blk, ∃ ka kn kc ba bn bc, W.cell? (a.add (i * 4)) = some (.int .i64 K.refs) ∧ W.cell? ((a.add (i * 4)).add 1) = some (.int .i64 K.level) ∧ W.cell? ((a.add (i * 4)).add 2) = some (.slice ka kn kc) ∧ W.cell? ((a.add (i * 4)).add 3) = some (.slice ba bn bc) ∧
          NumsAt (fun _ => True) .i64 W ka kn K.kids ∧ NumsAt (fun _ => True) .u8 W ba bn K.bytes ∧ (-9223372036854775808 ≤ K.refs ∧ K.refs ≤ 9223372036854775807) ∧ (-9223372036854775808 ≤ K.level ∧ K.level ≤ 9223372036854775807) ∧ (kn ≤ kc ∧ bn ≤ bc) := by
        intro i hi
        obtain ⟨cs', h1, h2⟩ := hx i (by omega)
        rw [e4] at h1
        obtain ⟨r, lv, ka, kn, kc, ba, bn, bc, ks, bs, rfl, b1, b2, b3, b4, b5⟩ := blk_open h2
        obtain ⟨_, _, hc⟩ := World.cells?_some h1
        have c0 := hc 0 (by omega)
        have c1 := hc 1 (by omega)
        have c2 := hc 2 (by omega)
        have c3 := hc 3 (by omega)
        have ez : (a.add (i * 4)).add 0 = a.add (i * 4) := add_zero' _
        rw [ez] at c0
        exact ⟨⟨r, lv, ks, bs⟩, ka, kn, kc, ba, bn, bc, c0, c1, c2, c3, b4, b5, b1, b2, b3⟩
      have : Inhabited Blk := ⟨Blk.zero⟩
      obtain ⟨B, hB⟩ := choose_lt hone
      refine ⟨some a, len, m, B, by unfold maxLen at hm; omega, rfl, fun hp => ?_⟩
      obtain ⟨_, _, _, _, _, _, h0', _⟩ := hB 0 (by omega)
      rw [Nat.zero_mul, add_zero'] at h0'
      have hx0 := addr_none h0'
      obtain ⟨b, off, spot⟩ := a
      simp only [Addr.mk.injEq, true_and] at hx0
      subst hx0
      refine ⟨b, off, rfl, cell_lt h0', fun i hi => ?_⟩
      obtain ⟨ka, kn, kc, ba, bn, bc, c0, c1, c2, c3, k1, k2, k3, k4, k5⟩ := hB i hi
      rw [add_none] at c0 c1 c2 c3
      rw [add_none] at c1 c2 c3
      exact ⟨ka, kn, kc, ba, bn, bc, c0, c1, c2, c3, k1, k2, k3, k4, k5⟩

set_option maxRecDepth 100000 in
theorem block_open {r : Reach} {b0 : Nat} {v : Value} {d : DataW H} {p : List MemPlace} (hv : Value.okWide Tryz.prog W r b0 93 v) (h : DataW.Trod enc Tryz.prog W 0 (fun _ => true) true 93 v d p) :
    ∃ (K : Blk) (ka : Option Addr) (kn kc : Nat) (ba : Option Addr) (bn bc : Nat), v = .agg #[.int .i64 K.refs, .int .i64 K.level, .slice ka kn kc, .slice ba bn bc] ∧
      (-9223372036854775808 ≤ K.level ∧ K.level ≤ 9223372036854775807) ∧ (kn ≤ kc ∧ bn ≤ bc) ∧ NumsAt (fun _ => True) .i64 W ka kn K.kids ∧ NumsAt (fun _ => True) .u8 W ba bn K.bytes := by
  obtain ⟨cs, rfl, hsz⟩ := okWide_struct Tryz.underlying93 hv
  obtain ⟨fuel, hf⟩ := h
  have hf' : DataW.trod enc Tryz.prog W 0 (fun _ => true) true fuel 93 cs.toList = some (d, p) := by simpa [Value.cells] using hf
  obtain ⟨rr, lv, ka, kn, kc, ba, bn, bc, ks, bs, hcs, _, b2, b3, b4, b5⟩ := blk_open hf'
  refine ⟨⟨rr, lv, ks, bs⟩, ka, kn, kc, ba, bn, bc, ?_, b2, b3, b4, b5⟩
  obtain ⟨l⟩ := cs
  simp at hcs
  subst hcs
  rfl
end

end Go.Proofs.YtnmcgmpmcliinaaGreat

namespace Go.Proofs.YtnmcgmpmcliinaaGreat
open Go.ChangeShapes Go.WideShapes Go.RowKit Go.Deep

section
variable {H : Type} {enc : TypeId × Value → H} {W : World}

theorem range_getD {α : Type} (f : Nat → α) (n i : Nat) (d : α) (h : i < n) : ((List.range n).map f).getD i d = f i := by
  simp [List.getD, h]

set_option maxRecDepth 100000 in
theorem ent_open {m : Nat} {cs : List Value} {y : DataW H × List MemPlace} (h : DataW.trod enc Tryz.prog W 0 (fun _ => true) true m 62 cs = some y) :
    ∃ x : Ent, cs = [.string x.name, .int .i64 x.root, .int .i64 x.size] ∧ x.ok := by
  obtain ⟨y0, y1, n, _, hl, h0, h1⟩ := trod_struct2 Tryz.underlying62 h
  have hl3 : cs.length = 3 := hl.trans (by kernel_rfl)
  match cs, hl3 with
  | [c0, c1, c2], _ =>
    have e0 : Tryz.prog.cellsOf 9 = 1 := by kernel_rfl
    have e1 : Tryz.prog.cellsOf 3 = 1 := by kernel_rfl
    have e2 : Tryz.prog.cellsOf 60 = 2 := by kernel_rfl
    simp [e0, e2] at h0 h1
    obtain ⟨s, hs, _, ws⟩ := DataW.trod_string Tryz.underlying9 h0
    obtain ⟨z0, z1, n', _, _, g0, g1⟩ := trod_struct2 Tryz.underlying60 h1
    simp [e1] at g0 g1
    obtain ⟨r, hr, _, wr⟩ := DataW.trod_int Tryz.underlying3 g0
    obtain ⟨z, hz, _, wz⟩ := DataW.trod_int Tryz.underlying3 g1
    simp at hs hr hz
    subst hs hr hz
    have b1 := bounds_i64 wr
    have b2 := bounds_i64 wz
    have b1' : -9223372036854775808 ≤ r ∧ r ≤ 9223372036854775807 := by omega
    have b2' : -9223372036854775808 ≤ z ∧ z ≤ 9223372036854775807 := by omega
    exact ⟨⟨s, r, z⟩, rfl, ws, b1', b2'⟩

set_option maxRecDepth 100000 in
theorem ents_open {m : Nat} {v : Value} {y : DataW H × List MemPlace} (h : DataW.trod enc Tryz.prog W 0 (fun _ => true) true m 44 [v] = some y) :
    ∃ a n c l, v = .slice a n c ∧ n ≤ c ∧ n ≤ maxLen ∧ EntsAt (fun _ => True) W a n l := by
  have e3 : Tryz.prog.cellsOf 62 = 3 := by kernel_rfl
  rcases open_slice Tryz.underlying44 h with ⟨hcs, _⟩ | ⟨a, len, cap, m, n', D, Pl, hcs, _, hl, hm, hmm, _, hx⟩
  · exact ⟨none, 0, 0, [], by simpa using hcs, Nat.le_refl _, Nat.zero_le _, entsAt_nil _ _ _⟩
  · simp at hcs
    subst hcs
    simp only [if_true] at hmm
    subst hmm
    have hone : ∀ i, i < len → ∃ x : Ent, W.cell? (a.add (i * 3)) = some (.string x.name) ∧ W.cell? ((a.add (i * 3)).add 1) = some (.int .i64 x.root) ∧ W.cell? ((a.add (i * 3)).add 2) = some (.int .i64 x.size) ∧ x.ok := by
      intro i hi
      obtain ⟨cs', h1, h2⟩ := hx i (by omega)
      rw [e3] at h1
      obtain ⟨x, rfl, hok⟩ := ent_open h2
      obtain ⟨_, _, hc⟩ := World.cells?_some h1
      have c0 := hc 0 (by omega)
      have c1 := hc 1 (by omega)
      have c2 := hc 2 (by omega)
      have ez : (a.add (i * 3)).add 0 = a.add (i * 3) := add_zero' _
      rw [ez] at c0
      exact ⟨x, c0, c1, c2, hok⟩
    obtain ⟨X, hX⟩ := choose_lt hone
    refine ⟨some a, len, m, (List.range len).map X, rfl, hl, by omega, by simp, fun x hx => ?_, fun hp => ?_⟩
    · obtain ⟨i, hi, rfl⟩ := List.mem_map.1 hx
      exact (hX i (List.mem_range.1 hi)).2.2.2
    · obtain ⟨h0', _⟩ := hX 0 (by omega)
      rw [Nat.zero_mul, add_zero'] at h0'
      have hx0 := addr_none h0'
      obtain ⟨b, off, spot⟩ := a
      simp only [Addr.mk.injEq, true_and] at hx0
      subst hx0
      refine ⟨b, off, rfl, cell_lt h0', trivial, fun i hi => ?_⟩
      obtain ⟨c0, c1, c2, _⟩ := hX i hi
      rw [add_none] at c0 c1 c2
      rw [add_none] at c1 c2
      rw [range_getD _ _ _ _ hi]
      exact ⟨c0, c1, c2⟩

set_option maxRecDepth 100000 in
theorem snap_open {m : Nat} {cs : List Value} {y : DataW H × List MemPlace} (h : DataW.trod enc Tryz.prog W 0 (fun _ => true) true m 89 cs = some y) :
    ∃ (x : SnapE) (fa : Option Addr) (fn fc : Nat), cs = [.string x.name, .slice fa fn fc] ∧ x.name.size ≤ maxLen ∧ fn ≤ fc ∧ EntsAt (fun _ => True) W fa fn x.files := by
  obtain ⟨y0, y1, n, _, hl, h0, h1⟩ := trod_struct2 Tryz.underlying89 h
  have hl2 : cs.length = 2 := hl.trans (by kernel_rfl)
  match cs, hl2 with
  | [c0, c1], _ =>
    have e0 : Tryz.prog.cellsOf 9 = 1 := by kernel_rfl
    have e1 : Tryz.prog.cellsOf 44 = 1 := by kernel_rfl
    simp [e0, e1] at h0 h1
    obtain ⟨s, hs, _, ws⟩ := DataW.trod_string Tryz.underlying9 h0
    obtain ⟨fa, fn, fc, l, rfl, hc, _, hE⟩ := ents_open h1
    simp at hs
    subst hs
    exact ⟨⟨s, l⟩, fa, fn, fc, rfl, ws, hc, hE⟩

set_option maxRecDepth 100000 in
theorem snaps_open {m : Nat} {v : Value} {y : DataW H × List MemPlace} (h : DataW.trod enc Tryz.prog W 0 (fun _ => true) true m 45 [v] = some y) :
    ∃ a n c l, v = .slice a n c ∧ n ≤ c ∧ n ≤ maxLen ∧ SnapsAt (fun _ => True) W a n l := by
  have e3 : Tryz.prog.cellsOf 89 = 2 := by kernel_rfl
  rcases open_slice Tryz.underlying45 h with ⟨hcs, _⟩ | ⟨a, len, cap, m, n', D, Pl, hcs, _, hl, hm, hmm, _, hx⟩
  · exact ⟨none, 0, 0, [], by simpa using hcs, Nat.le_refl _, Nat.zero_le _, snapsAt_nil _ _ _⟩
  · simp at hcs
    subst hcs
    simp only [if_true] at hmm
    subst hmm
    have hone : ∀ i, i < len → ∃ x : SnapE, ∃ fa fn fc, W.cell? (a.add (i * 2)) = some (.string x.name) ∧ W.cell? ((a.add (i * 2)).add 1) = some (.slice fa fn fc) ∧ x.name.size ≤ maxLen ∧ fn ≤ fc ∧ EntsAt (fun _ => True) W fa fn x.files := by
      intro i hi
      obtain ⟨cs', h1, h2⟩ := hx i (by omega)
      rw [e3] at h1
      obtain ⟨x, fa, fn, fc, rfl, hs, hcp, hE⟩ := snap_open h2
      obtain ⟨_, _, hc⟩ := World.cells?_some h1
      have c0 := hc 0 (by omega)
      have c1 := hc 1 (by omega)
      have ez : (a.add (i * 2)).add 0 = a.add (i * 2) := add_zero' _
      rw [ez] at c0
      exact ⟨x, fa, fn, fc, c0, c1, hs, hcp, hE⟩
    obtain ⟨X, hX⟩ := choose_lt hone
    refine ⟨some a, len, m, (List.range len).map X, rfl, hl, by omega, by simp, fun hp => ?_⟩
    obtain ⟨_, _, _, h0', _⟩ := hX 0 (by omega)
    rw [Nat.zero_mul, add_zero'] at h0'
    have hx0 := addr_none h0'
    obtain ⟨b, off, spot⟩ := a
    simp only [Addr.mk.injEq, true_and] at hx0
    subst hx0
    refine ⟨b, off, rfl, cell_lt h0', trivial, fun i hi => ?_⟩
    obtain ⟨fa, fn, fc, c0, c1, hs, hcp, hE⟩ := hX i hi
    rw [add_none] at c0 c1
    rw [add_none] at c1
    rw [range_getD _ _ _ _ hi]
    exact ⟨fa, fn, fc, c0, c1, hE, hs, hcp⟩

set_option maxRecDepth 100000 in
theorem set_open {r : Reach} {b0 : Nat} {v : Value} {d : DataW H} {p : List MemPlace} (hv : Value.okWide Tryz.prog W r b0 47 v) (h : DataW.Trod enc Tryz.prog W 0 (fun _ => true) true 47 v d p) :
    ∃ (V : SetV) (x : SetE), v = V.val ∧ SetAt (fun _ => True) W V x ∧ V.fn ≤ maxLen ∧ V.sn ≤ maxLen := by
  obtain ⟨cs, rfl, hsz⟩ := okWide_struct Tryz.underlying47 hv
  have hsz3 : cs.size = 3 := hsz.trans (by kernel_rfl)
  obtain ⟨l⟩ := cs
  match l, hsz3 with
  | [c0, c1, c2], _ =>
    obtain ⟨fuel, hf⟩ := h
    obtain ⟨y0, y1, y2, n, _, _, h0, h1, h2⟩ := trod_struct3 Tryz.underlying47 hf
    have e0 : Tryz.prog.cellsOf 9 = 1 := by kernel_rfl
    have e1 : Tryz.prog.cellsOf 44 = 1 := by kernel_rfl
    have e2 : Tryz.prog.cellsOf 45 = 1 := by kernel_rfl
    simp [Value.cells, e0, e1, e2] at h0 h1 h2
    obtain ⟨s, hs, _, ws⟩ := DataW.trod_string Tryz.underlying9 h0
    obtain ⟨fa, fn, fc, fl, rfl, hfc, hfm, hE⟩ := ents_open h1
    obtain ⟨sa, sn, sc, sl, rfl, hsc, hsm, hS⟩ := snaps_open h2
    simp at hs
    subst hs
    exact ⟨⟨s, fa, fn, fc, sa, sn, sc⟩, ⟨s, fl, sl⟩, rfl, ⟨rfl, ws, hE, hS, hfc, hsc⟩, hfm, hsm⟩

set_option maxRecDepth 100000 in
theorem ask_open {m : Nat} {cs : List Value} {y : DataW H × List MemPlace} (h : DataW.trod enc Tryz.prog W 0 (fun _ => true) true m 30 cs = some y) :
    ∃ (x : AskE) (ba : Option Addr) (bn bc : Nat), cs = [.int .i64 x.kind, .string x.set, .string x.file, .string x.to, .int .i64 x.pos, .int .i64 x.num, .slice ba bn bc] ∧ x.ok ∧ bn ≤ bc ∧ NumsAt (fun _ => True) .u8 W ba bn x.bytes := by
  obtain ⟨xs, n, _, rfl, hl, hlen, hf⟩ := DataW.trod_struct Tryz.underlying30 h
  have hl7 : cs.length = 7 := hl.trans (by kernel_rfl)
  match xs, hlen, cs, hl7 with
  | [y0, y1, y2, y3, y4, y5, y6], _, [c0, c1, c2, c3, c4, c5, c6], _ =>
    have e0 : Tryz.prog.cellsOf 9 = 1 := by kernel_rfl
    have e1 : Tryz.prog.cellsOf 3 = 1 := by kernel_rfl
    have e2 : Tryz.prog.cellsOf 28 = 1 := by kernel_rfl
    have h0 := hf 0 _ rfl
    have h1 := hf 1 _ rfl
    have h2 := hf 2 _ rfl
    have h3 := hf 3 _ rfl
    have h4 := hf 4 _ rfl
    have h5 := hf 5 _ rfl
    have h6 := hf 6 _ rfl
    simp [e0, e1, e2] at h0 h1 h2 h3 h4 h5 h6
    obtain ⟨k, hk, _, wk⟩ := DataW.trod_int Tryz.underlying3 h0
    obtain ⟨s1, hs1, _, ws1⟩ := DataW.trod_string Tryz.underlying9 h1
    obtain ⟨s2, hs2, _, ws2⟩ := DataW.trod_string Tryz.underlying9 h2
    obtain ⟨s3, hs3, _, ws3⟩ := DataW.trod_string Tryz.underlying9 h3
    obtain ⟨q, hq, _, wq⟩ := DataW.trod_int Tryz.underlying3 h4
    obtain ⟨u, hu, _, wu⟩ := DataW.trod_int Tryz.underlying3 h5
    obtain ⟨ba, bn, bc, bs, rfl, hb, _, hB⟩ := nums_open Tryz.underlying28 Tryz.underlying5 (by kernel_rfl) h6
    simp at hk hs1 hs2 hs3 hq hu
    subst hk hs1 hs2 hs3 hq hu
    have b1 := bounds_i64 wk
    have b2 := bounds_i64 wq
    have b3 := bounds_i64 wu
    have b1' : -9223372036854775808 ≤ k ∧ k ≤ 9223372036854775807 := by omega
    have b2' : -9223372036854775808 ≤ q ∧ q ≤ 9223372036854775807 := by omega
    have b3' : -9223372036854775808 ≤ u ∧ u ≤ 9223372036854775807 := by omega
    exact ⟨⟨k, s1, s2, s3, q, u, bs⟩, ba, bn, bc, rfl, ⟨⟨ws1, ws2, ws3⟩, b1', b2', b3'⟩, hb, hB⟩

set_option maxRecDepth 100000 in
theorem asks_open {r : Reach} {b0 : Nat} {v : Value} {d : DataW H} {p : List MemPlace} (hv : Value.okWide Tryz.prog W r b0 78 v) (h : DataW.Trod enc Tryz.prog W 0 (fun _ => true) true 78 v d p) :
    ∃ a n c l, v = .slice a n c ∧ n ≤ c ∧ n ≤ maxLen ∧ AsksAt W a n l := by
  obtain ⟨a, n, c, rfl⟩ := okWide_slice Tryz.underlying78 hv
  obtain ⟨fuel, hf⟩ := h
  have e3 : Tryz.prog.cellsOf 30 = 7 := by kernel_rfl
  simp [Value.cells] at hf
  rcases open_slice Tryz.underlying78 hf with ⟨hcs, _⟩ | ⟨a, len, cap, m, n', D, Pl, hcs, _, hl, hm, hmm, _, hx⟩
  · simp at hcs
    obtain ⟨rfl, rfl, rfl⟩ := hcs
    exact ⟨none, 0, 0, [], rfl, Nat.le_refl _, Nat.zero_le _, rfl, fun h => absurd h (by omega)⟩
  · simp at hcs
    obtain ⟨rfl, rfl, rfl⟩ := hcs
    simp only [if_true] at hmm
    subst hmm
    have hone : ∀ i, i < n → ∃ x : AskE, ∃ ba bn bc, (W.cell? (a.add (i * 7)) = some (.int .i64 x.kind) ∧ W.cell? ((a.add (i * 7)).add 1) = some (.string x.set) ∧ W.cell? ((a.add (i * 7)).add 2) = some (.string x.file) ∧ W.cell? ((a.add (i * 7)).add 3) = some (.string x.to) ∧
        W.cell? ((a.add (i * 7)).add 4) = some (.int .i64 x.pos) ∧ W.cell? ((a.add (i * 7)).add 5) = some (.int .i64 x.num) ∧ W.cell? ((a.add (i * 7)).add 6) = some (.slice ba bn bc)) ∧ x.ok ∧ bn ≤ bc ∧ NumsAt (fun _ => True) .u8 W ba bn x.bytes := by
      intro i hi
      obtain ⟨cs', h1, h2⟩ := hx i (by omega)
      rw [e3] at h1
      obtain ⟨x, ba, bn, bc, rfl, hok, hcp, hB⟩ := ask_open h2
      obtain ⟨_, _, hc⟩ := World.cells?_some h1
      have c0 := hc 0 (by omega)
      have c1 := hc 1 (by omega)
      have c2 := hc 2 (by omega)
      have c3 := hc 3 (by omega)
      have c4 := hc 4 (by omega)
      have c5 := hc 5 (by omega)
      have c6 := hc 6 (by omega)
      have ez : (a.add (i * 7)).add 0 = a.add (i * 7) := add_zero' _
      rw [ez] at c0
      exact ⟨x, ba, bn, bc, ⟨c0, c1, c2, c3, c4, c5, c6⟩, hok, hcp, hB⟩
    obtain ⟨X, hX⟩ := choose_lt hone
    refine ⟨some a, n, m, (List.range n).map X, rfl, hl, by omega, by simp, fun hp => ?_⟩
    obtain ⟨_, _, _, ⟨h0', _⟩, _⟩ := hX 0 (by omega)
    rw [Nat.zero_mul, add_zero'] at h0'
    have hx0 := addr_none h0'
    obtain ⟨b, off, spot⟩ := a
    simp only [Addr.mk.injEq, true_and] at hx0
    subst hx0
    refine ⟨b, off, rfl, cell_lt h0', fun i hi => ?_⟩
    obtain ⟨ba, bn, bc, ⟨c0, c1, c2, c3, c4, c5, c6⟩, hok, hcp, hB⟩ := hX i hi
    rw [add_none] at c0 c1 c2 c3 c4 c5 c6
    rw [add_none] at c1 c2 c3 c4 c5 c6
    rw [range_getD _ _ _ _ hi]
    exact ⟨ba, bn, bc, c0, c1, c2, c3, c4, c5, c6, hB, hok, hcp⟩
end

end Go.Proofs.YtnmcgmpmcliinaaGreat
